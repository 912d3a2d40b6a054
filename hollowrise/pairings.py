"""PAIRINGS of a WEB: which they are, how many, their POWERS and their WORTHS."""

from hollowrise.cones import cone_of, levels_to, many_risen, stands, worths_risen
from hollowrise.errors import BadPairing, TooGreat
from hollowrise.fields import at
from hollowrise.fractions import by, fraction, power, times
from hollowrise.kinds import is_whole, need_rule
from hollowrise.sweeps import all_by, number_by, of_number, steps_of, sums_by
from hollowrise.targets import need_target
from hollowrise.webs import knots_by, knots_numbered, web_of

MOST_PAIRINGS = 4096
# Numbers up to this one are multiplied as they are, and divided by what they share at the end.
SHORT = 10 ** 30


def is_pairing(field, target, thing):
    """True of a PAIRING of the WEB, of anything."""
    try:
        need_pairing(field, target, thing)
    except BadPairing:
        return False
    return True


def need_pairing(field, target, pairing):
    """None, or BadPairing(number) of anything that is no PAIRING of the WEB."""
    need_target(field, target)
    need_pairing_on(field[0], target, pairing)


def how_many(field, target):
    """How many PAIRINGS there are."""
    need_target(field, target)
    return many_of(field[0], target)


def pairings(field, target):
    """A list of all PAIRINGS, rising; TooGreat where there are more than 4096."""
    need_target(field, target)
    return pairings_of(field[0], target)


def nth_pairing(field, target, number):
    """The PAIRING of a number; BadPairing(None), TooGreat."""
    need_target(field, target)
    many = many_of(field[0], target)
    if not is_whole(number) or not 0 <= number < many:
        raise BadPairing(None)
    _need_few(many)
    return of_number(web_steps(field[0], target), number)


def number_of(field, target, pairing):
    """The number of a PAIRING; TooGreat."""
    need_pairing(field, target, pairing)
    return number_by(few_steps(field[0], target), pairing)


def powers_of(field, target, pairing):
    """A rising tuple of (SPOT, POWER), POWER not 0."""
    need_pairing(field, target, pairing)
    return powers_by(bare_powers(field[0], target), pairing)


def rule_counts(field, target, pairing):
    """(How often A, how often B) a PAIRING brings."""
    need_pairing(field, target, pairing)
    return counts_by(pairing)


def pairing_worth(field, target, pairing, *, rule=(1, 1)):
    """The WORTH of a PAIRING."""
    need_pairing(field, target, pairing)
    need_rule(rule)
    return worth_by(field, powers_by(bare_powers(field[0], target), pairing), counts_by(pairing), rule)


def worth_by_pairings(field, target, *, rule=(1, 1)):
    """The sum of the WORTHS of all PAIRINGS, also where the WORTH AT the TARGET is refused; TooGreat."""
    need_target(field, target)
    need_rule(rule)
    return sum_of_pairings(field, target, rule)


def web_steps(heights, target):
    """The steps in which the WEB is gone over."""
    return steps_of(heights, web_of(heights, target))


def few_steps(heights, target):
    """As web_steps; TooGreat of more PAIRINGS than are gone through."""
    _need_few(many_of(heights, target))
    return web_steps(heights, target)


def many_of(heights, target):
    """As how_many, of good HEIGHTS and a good TARGET."""
    return many_risen(heights, target, levels_to(heights, target))


def _need_few(many):
    """None, or TooGreat of more PAIRINGS than are gone through."""
    if many > MOST_PAIRINGS:
        raise TooGreat(MOST_PAIRINGS)


def pairings_of(heights, target):
    """As pairings, of good HEIGHTS and a good TARGET."""
    return all_by(few_steps(heights, target))


def need_pairing_on(heights, target, thing):
    """As need_pairing, of good HEIGHTS and a good TARGET."""
    if type(thing) is not tuple:
        raise BadPairing(None)
    paired = {}
    ahead = ()
    for number, tie in enumerate(thing):
        # What is no TIE needn't have an order.
        knots = knots_numbered(heights, target, tie)
        if knots is None or tie <= ahead or knots[0] in paired or knots[1] in paired:
            raise BadPairing(number)
        paired[knots[0]] = True
        paired[knots[1]] = True
        ahead = tie
    if len(paired) < len(knots_by(heights, target)):
        raise BadPairing(len(thing))


def bare_powers(heights, target):
    """(SPOT, the POWER that it would have without any TIE paired) of all SPOTS that may have one, rising."""
    if stands(heights, target):
        return ((target[:2], 1),)
    bare = {}
    for x, y in cone_of(heights, target):
        south, row, north = heights[y - 1:y + 2]
        height = row[x]
        legs = 0
        # By 61: of four SIDES there come 1, of each two LEGS one more; each of these to a SPOT across that is as high.
        if south[x - 1] == height and south[x] != row[x - 1]:
            legs += 1
        if south[x + 1] == height and south[x] != row[x + 1]:
            legs += 1
        if north[x - 1] == height and north[x] != row[x - 1]:
            legs += 1
        if north[x + 1] == height and north[x] != row[x + 1]:
            legs += 1
        bare[(x, y)] = 1 + legs // 2
        # An OPEN SPOT has 1 where it has TIES: those it has to a CLOSED NEIGHBOUR, and a LEG just beside such a one.
        for near in ((x - 1, y), (x, y - 1), (x, y + 1), (x + 1, y)):
            bare[near] = bare.get(near, 1)
    return tuple(sorted(bare.items()))


def powers_by(bare, pairing):
    """As powers_of, of a good PAIRING, by the bare POWERS: a TIE that is paired makes both its SPOTS' less by one."""
    paired = {}
    for one, other in pairing:
        paired[one] = paired.get(one, 0) + 1
        paired[other] = paired.get(other, 0) + 1
    told = [(spot, often - paired.get(spot, 0)) for spot, often in bare]
    return tuple([pair for pair in told if pair[1] != 0])


def counts_by(pairing):
    """As rule_counts, of a good PAIRING."""
    upright = 0
    level = 0
    for (x, y), (a, b) in pairing:
        if x == a:
            upright += 1
        elif y == b:
            level += 1
    # Between SPOTS above one another: these bring A.
    return (upright // 2, level // 2)


def worth_by(field, powers, counts, rule):
    """The WORTH of a PAIRING with these POWERS that brings A and B so often."""
    worths = field[1]
    a, b = rule
    above = power((a, 1), counts[0])[0] * power((b, 1), counts[1])[0]
    below = 1
    longs = []
    for (x, y), often in powers:
        one, other = worths[y][x]
        if other > SHORT or one > SHORT or one < -SHORT:
            longs.append(power((one, other), often))
            continue
        if often < 0:
            one, other = other, one
        # By 31 it is no more than 3.
        for _ in range(abs(often)):
            above = above * one
            below = below * other
    worth = fraction(above, below)
    # Long numbers are kept short by what they share on the way.
    for one in longs:
        worth = times(worth, one)
    return worth


def sum_of_pairings(field, target, rule):
    """As worth_by_pairings, of a good FIELD, TARGET and RULE."""
    heights, worths = field
    levels = levels_to(heights, target)
    _need_few(many_risen(heights, target, levels))
    # By T3 the WORTH AT the TARGET is the same, and takes less long; but there may be a 0 on the way to it.
    told = worths_risen(worths, levels, rule)
    if told is not None:
        return told[0][target[1]][target[0]]
    steps = web_steps(heights, target)
    bare, brought = by_ties(field, target, steps, rule)
    return times(bare, sums_by(steps, brought, (), rule)[0])


def by_ties(field, target, steps, rule):
    """(What there is bare, what each TIE that is paired brings to that): it takes one WORTH of both its SPOTS away."""
    heights, worths = field
    bare = worth_by(field, bare_powers(heights, target), (0, 0), rule)
    brought = {}
    for step in steps:
        one, other = step[0]
        brought[step[0]] = by((1, 1), times(at(worths, one), at(worths, other)))
    return (bare, brought)
