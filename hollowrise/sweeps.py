"""A WEB gone over TIE by TIE, as they rise: how its PAIRINGS come to be, however many these are.

A state is a number: of the KNOTS that have TIES both ahead and to come, those that are paired already, each by a power
of two. What PAIRINGS go on with from one state is the same for all that come to it, so each state is gone on from once.
"""

from hollowrise.fractions import plus, so_many, times
from hollowrise.webs import ends_numbered, is_side


def steps_of(heights, ties):
    """For each TIE of a WEB (TIE, both its KNOTS, those of them to which no TIE comes behind it), KNOTS as bits."""
    bits = {}
    last = {}
    ends = []
    for number, tie in enumerate(ties):
        one, other = ends_numbered(heights, tie)
        ends.append((one, other))
        for knot in (one, other):
            bits[knot] = bits.get(knot, 1 << len(bits))
            last[knot] = number
    steps = []
    for number, tie in enumerate(ties):
        one, other = ends[number]
        gone = (bits[one] if last[one] == number else 0) | (bits[other] if last[other] == number else 0)
        steps.append((tie, bits[one] | bits[other], gone))
    return steps


def links_of(steps):
    """For each TIE a dict from the states ahead of it to (that behind where it is paired, that where it isn't).

    None stands where that can't be: a KNOT would be paired twice, or never.
    """
    told = []
    reached = {0: True}
    for _, both, last in steps:
        links = {}
        behind = {}
        for state in reached:
            paired = None
            left = None
            if state & both == 0 and (state | both) & last == last:
                paired = (state | both) ^ last
                behind[paired] = True
            if state & last == last:
                left = state ^ last
                behind[left] = True
            links[state] = (paired, left)
        told.append(links)
        reached = behind
    return told


def ways_on(links):
    """A dict ahead of each TIE, and one behind the last: from each state to how many ways lead on to the end."""
    ahead = {0: 1}
    told = [ahead]
    for states in links[::-1]:
        behind = ahead
        ahead = {}
        for state, (paired, left) in states.items():
            many = behind.get(paired, 0) + behind.get(left, 0)
            if many > 0:
                ahead[state] = many
        told.append(ahead)
    return told[::-1]


def all_by(steps):
    """A list of all PAIRINGS, rising."""
    ahead = {0: [()]}
    links = links_of(steps)
    for number in reversed(range(len(steps))):
        behind = ahead
        ahead = {}
        tie = steps[number][:1]
        for state, (paired, left) in links[number].items():
            # All are of one length, so those that have the lesser TIE come first.
            found = [tie + rest for rest in behind.get(paired, [])] + behind.get(left, [])
            if len(found) > 0:
                ahead[state] = found
    return ahead[0]


def of_number(steps, number):
    """The PAIRING of a good number."""
    links = links_of(steps)
    told = ways_on(links)
    pairing = []
    state = 0
    for place, step in enumerate(steps):
        paired, left = links[place][state]
        many = told[place + 1].get(paired, 0)
        if number < many:
            pairing.append(step[0])
            state = paired
        else:
            number -= many
            state = left
    return tuple(pairing)


def number_by(steps, pairing):
    """The number of a good PAIRING."""
    links = links_of(steps)
    told = ways_on(links)
    ties = {tie: True for tie in pairing}
    number = 0
    state = 0
    for place, step in enumerate(steps):
        paired, left = links[place][state]
        if step[0] in ties:
            state = paired
        else:
            number += told[place + 1].get(paired, 0)
            state = left
    return number


def sums_by(steps, worths, counted, rule):
    """From how many of the counted TIES are paired to the sum, over all such PAIRINGS, of what their TIES bring.

    Each TIE brings a FRACTION, and by the SIDES there come As and Bs; all that one PAIRING's bring is multiplied.
    """
    reached = {(0, 0, 0, 0): (1, 1)}
    for (tie, _, _), links in zip(steps, links_of(steps)):
        more = 1 if tie in counted else 0
        behind = {}
        for (state, odd_a, odd_b, many), worth in reached.items():
            paired, left = links[state]
            if left is not None:
                _put(behind, (left, odd_a, odd_b, many), worth)
            if paired is not None:
                odds, worth = _with_tie(tie, (odd_a, odd_b), times(worth, worths[tie]), rule)
                _put(behind, (paired,) + odds + (many + more,), worth)
        reached = behind
    # At the end all KNOTS are paired, and evenly many SIDES of either sort.
    return {many: reached[(0, 0, 0, many)] for _, _, _, many in sorted(reached)}


def _put(table, key, worth):
    """What a key has in the table is more by a worth."""
    if key in table:
        worth = plus(table[key], worth)
    table[key] = worth


def _with_tie(tie, odds, worth, rule):
    """(Whether oddly many SIDES of either sort are paired, what comes): each second one brings A, or B."""
    odd_a, odd_b = odds
    a, b = rule
    if not is_side(tie):
        return (odds, worth)
    if tie[0][0] == tie[1][0]:
        return ((1 - odd_a, odd_b), so_many(worth, a) if odd_a == 1 else worth)
    return ((odd_a, 1 - odd_b), so_many(worth, b) if odd_b == 1 else worth)
