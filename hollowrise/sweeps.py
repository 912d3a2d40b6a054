"""A WEB gone over TIE by TIE, as they rise: how its PAIRINGS come to be, however many these are.

A state is a number: of the KNOTS that have TIES both ahead and to come, those that are paired already, each by a power
of two. What PAIRINGS go on with from one state is the same for all that come to it, so each state is gone on from once.
"""

from hollowrise.fractions import plus, so_many, times
from hollowrise.webs import ends_numbered, is_side


def steps_of(heights, ties):
    """For each TIE of a WEB (TIE, both its KNOTS, those of them to which no TIE comes behind it), KNOTS as bits."""
    bits = {}
    last = {}
    ends = []
    for number, tie in enumerate(ties):
        one, other = ends_numbered(heights, tie)
        ends.append((one, other))
        for knot in (one, other):
            bits[knot] = bits.get(knot, 1 << len(bits))
            last[knot] = number
    steps = []
    for number, tie in enumerate(ties):
        one, other = ends[number]
        gone = (bits[one] if last[one] == number else 0) | (bits[other] if last[other] == number else 0)
        steps.append((tie, bits[one] | bits[other], gone))
    return steps


def gone_on(state, step, paired):
    """The state behind a TIE that is paired, or isn't; None where that can't be."""
    _, both, last = step
    if paired:
        if state & both != 0:
            return None
        state = state | both
    if state & last != last:
        return None
    return state ^ last


def ways_to(steps):
    """A dict ahead of each TIE, and one behind the last: from each state to how many ways lead there."""
    reached = {0: 1}
    told = [reached]
    for step in steps:
        behind = {}
        for state, many in reached.items():
            for paired in (True, False):
                other = gone_on(state, step, paired)
                if other is not None:
                    behind[other] = behind.get(other, 0) + many
        reached = behind
        told.append(reached)
    return told


def ways_on(steps):
    """As ways_to, of all states from which ways lead on to the end: to how many these are."""
    reached = ways_to(steps)
    ahead = {0: 1}
    told = [ahead]
    for number in reversed(range(len(steps))):
        behind = ahead
        ahead = {}
        for state in reached[number]:
            many = _many_on(state, steps[number], behind, True) + _many_on(state, steps[number], behind, False)
            if many > 0:
                ahead[state] = many
        told.append(ahead)
    return told[::-1]


def _many_on(state, step, behind, paired):
    """How many ways lead on where a TIE is paired, or isn't."""
    return behind.get(gone_on(state, step, paired), 0)


def all_by(steps):
    """A list of all PAIRINGS, rising."""
    reached = ways_to(steps)
    ahead = {0: [()]}
    for number in reversed(range(len(steps))):
        behind = ahead
        ahead = {}
        step = steps[number]
        for state in reached[number]:
            # All are of one length, so those that have the lesser TIE come first.
            found = [step[:1] + rest for rest in behind.get(gone_on(state, step, True), [])]
            found = found + behind.get(gone_on(state, step, False), [])
            if len(found) > 0:
                ahead[state] = found
    return ahead[0]


def of_number(steps, number):
    """The PAIRING of a good number."""
    told = ways_on(steps)
    pairing = []
    state = 0
    for step, behind in zip(steps, told[1:]):
        many = _many_on(state, step, behind, True)
        paired = number < many
        if paired:
            pairing.append(step[0])
        else:
            number -= many
        state = gone_on(state, step, paired)
    return tuple(pairing)


def number_by(steps, pairing):
    """The number of a good PAIRING."""
    told = ways_on(steps)
    ties = {tie: True for tie in pairing}
    number = 0
    state = 0
    for step, behind in zip(steps, told[1:]):
        paired = step[0] in ties
        if not paired:
            number += _many_on(state, step, behind, True)
        state = gone_on(state, step, paired)
    return number


def sums_by(steps, worths, counted, rule):
    """From how many of the counted TIES are paired to the sum, over all such PAIRINGS, of what their TIES bring.

    Each TIE brings a FRACTION, and by the SIDES there come As and Bs; all that one PAIRING's bring is multiplied.
    """
    reached = {(0, 0, 0, 0): (1, 1)}
    for step in steps:
        tie = step[0]
        more = 1 if tie in counted else 0
        behind = {}
        for (state, odd_a, odd_b, many), worth in reached.items():
            other = gone_on(state, step, False)
            if other is not None:
                _put(behind, (other, odd_a, odd_b, many), worth)
            other = gone_on(state, step, True)
            if other is not None:
                odds, worth = _with_tie(tie, (odd_a, odd_b), times(worth, worths[tie]), rule)
                _put(behind, (other,) + odds + (many + more,), worth)
        reached = behind
    # At the end all KNOTS are paired, and evenly many SIDES of either sort.
    return {many: reached[(0, 0, 0, many)] for _, _, _, many in sorted(reached)}


def _put(table, key, worth):
    """What a key has in the table is more by a worth."""
    if key in table:
        worth = plus(table[key], worth)
    table[key] = worth


def _with_tie(tie, odds, worth, rule):
    """(Whether oddly many SIDES of either sort are paired, what comes): each second one brings A, or B."""
    odd_a, odd_b = odds
    a, b = rule
    if not is_side(tie):
        return (odds, worth)
    if tie[0][0] == tie[1][0]:
        return ((1 - odd_a, odd_b), so_many(worth, a) if odd_a == 1 else worth)
    return ((odd_a, 1 - odd_b), so_many(worth, b) if odd_b == 1 else worth)
