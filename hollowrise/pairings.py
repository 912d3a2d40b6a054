"""PAIRINGS of a WEB: which they are, how many, their POWERS and their WORTHS."""

from hollowrise.errors import BadPairing, Nought, TooGreat
from hollowrise.fields import at
from hollowrise.fractions import by, power, times
from hollowrise.kinds import is_whole, need_rule
from hollowrise.reach import levels_behind
from hollowrise.sweeps import all_by, how_many_by, number_by, of_number, steps_of, sums_by
from hollowrise.targets import need_target, rising_to, stands, sunk
from hollowrise.webs import ends_of, is_side, is_tie, knots_among, web_of

MOST_PAIRINGS = 4096


def is_pairing(field, target, thing):
    """True of a PAIRING of the WEB, of anything."""
    try:
        need_pairing(field, target, thing)
    except BadPairing:
        return False
    return True


def need_pairing(field, target, pairing):
    """None, or BadPairing(number) of anything that is no PAIRING of the WEB."""
    need_target(field, target)
    need_pairing_on(field[0], target, pairing)


def how_many(field, target):
    """How many PAIRINGS there are."""
    need_target(field, target)
    return how_many_by(web_steps(field[0], target))


def pairings(field, target):
    """A list of all PAIRINGS, rising; TooGreat where there are more than 4096."""
    need_target(field, target)
    return pairings_of(field[0], target)


def nth_pairing(field, target, number):
    """The PAIRING of a number; BadPairing(None), TooGreat."""
    need_target(field, target)
    steps = web_steps(field[0], target)
    many = how_many_by(steps)
    if not is_whole(number) or not 0 <= number < many:
        raise BadPairing(None)
    _need_few(many)
    return of_number(steps, number)


def number_of(field, target, pairing):
    """The number of a PAIRING; TooGreat."""
    need_pairing(field, target, pairing)
    return number_by(few_steps(field[0], target), pairing)


def powers_of(field, target, pairing):
    """A rising tuple of (SPOT, POWER), POWER not 0."""
    need_pairing(field, target, pairing)
    return powers_by(bare_powers(field[0], target), pairing)


def rule_counts(field, target, pairing):
    """(How often A, how often B) a PAIRING brings."""
    need_pairing(field, target, pairing)
    return counts_by(pairing)


def pairing_worth(field, target, pairing, *, rule=(1, 1)):
    """The WORTH of a PAIRING."""
    need_pairing(field, target, pairing)
    need_rule(rule)
    return worth_by(field, powers_by(bare_powers(field[0], target), pairing), counts_by(pairing), rule)


def worth_by_pairings(field, target, *, rule=(1, 1)):
    """The sum of the WORTHS of all PAIRINGS, also where the WORTH AT the TARGET is refused; TooGreat."""
    need_target(field, target)
    need_rule(rule)
    return sum_of_pairings(field, target, rule)


def web_steps(heights, target):
    """The steps in which the WEB is gone over."""
    return steps_of(heights, web_of(heights, target))


def few_steps(heights, target):
    """As web_steps; TooGreat of more PAIRINGS than are gone through."""
    steps = web_steps(heights, target)
    _need_few(how_many_by(steps))
    return steps


def _need_few(many):
    """None, or TooGreat of more PAIRINGS than are gone through."""
    if many > MOST_PAIRINGS:
        raise TooGreat(MOST_PAIRINGS)


def pairings_of(heights, target):
    """As pairings, of good HEIGHTS and a good TARGET."""
    return all_by(few_steps(heights, target))


def need_pairing_on(heights, target, thing):
    """As need_pairing, of good HEIGHTS and a good TARGET."""
    if type(thing) is not tuple:
        raise BadPairing(None)
    ties = {tie: True for tie in web_of(heights, target)}
    paired = {}
    ahead = ()
    for number, tie in enumerate(thing):
        # What is no TIE by its form needn't have an order, nor be a key.
        if not is_tie(heights, tie) or tie not in ties or tie <= ahead:
            raise BadPairing(number)
        for knot in ends_of(heights, tie):
            if knot in paired:
                raise BadPairing(number)
            paired[knot] = True
        ahead = tie
    if len(paired) < len(knots_among(heights, ties)):
        raise BadPairing(len(thing))


def bare_powers(heights, target):
    """(SPOT, the POWER that it would have without any TIE paired) of all SPOTS that may have one, rising."""
    if stands(heights, target):
        return ((target[:2], 1),)
    many = {}
    for tie in web_of(heights, target):
        for spot in tie:
            many[spot] = many.get(spot, 0) + 1
    return tuple([(spot, (many[spot] + 1) // 2 - _is_sunk(heights, target, spot)) for spot in sorted(many)])


def _is_sunk(heights, target, spot):
    """1 of a CLOSED SPOT, 0 of another one."""
    return 1 if sunk(heights, target, spot) > 0 else 0


def powers_by(bare, pairing):
    """As powers_of, of a good PAIRING, by the bare POWERS: a TIE that is paired makes both its SPOTS' less by one."""
    paired = {}
    for one, other in pairing:
        paired[one] = paired.get(one, 0) + 1
        paired[other] = paired.get(other, 0) + 1
    told = [(spot, often - paired.get(spot, 0)) for spot, often in bare]
    return tuple([pair for pair in told if pair[1] != 0])


def counts_by(pairing):
    """As rule_counts, of a good PAIRING."""
    sides = [tie for tie in pairing if is_side(tie)]
    # Between SPOTS above one another: these have one X.
    upright = [tie for tie in sides if tie[0][0] == tie[1][0]]
    return (len(upright) // 2, (len(sides) - len(upright)) // 2)


def worth_by(field, powers, counts, rule):
    """The WORTH of a PAIRING with these POWERS that brings A and B so often."""
    a, b = rule
    often_a, often_b = counts
    worth = times(power((a, 1), often_a), power((b, 1), often_b))
    for spot, often in powers:
        worth = times(worth, power(at(field[1], spot), often))
    return worth


def sum_of_pairings(field, target, rule):
    """As worth_by_pairings, of a good FIELD, TARGET and RULE."""
    steps = few_steps(field[0], target)
    try:
        # By T3 it is the same, and that takes less long.
        return levels_behind(field, rising_to(field[0], target), rule)[target]
    except Nought:
        return _sum_by_steps(field, target, steps, rule)


def _sum_by_steps(field, target, steps, rule):
    """The sum of T3 by the TIES."""
    bare, brought = by_ties(field, target, steps, rule)
    return times(bare, sums_by(steps, brought, (), rule)[0])


def by_ties(field, target, steps, rule):
    """(What there is bare, what each TIE that is paired brings to that): it takes one WORTH of both its SPOTS away."""
    heights, worths = field
    bare = worth_by(field, bare_powers(heights, target), (0, 0), rule)
    brought = {}
    for step in steps:
        one, other = step[0]
        brought[step[0]] = by((1, 1), times(at(worths, one), at(worths, other)))
    return (bare, brought)
