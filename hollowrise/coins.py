"""PAIRINGS DRAWN by COINS, each by just its SHARE."""

from hollowrise.cones import levels_to, worths_risen
from hollowrise.descents import Parts, bits_for, number_of_ties, stages_of, ties_of_number
from hollowrise.errors import BadCoin, BadField, BadRule, TooFew, TooGreat
from hollowrise.fractions import by, is_fraction
from hollowrise.kinds import is_good, need_rule
from hollowrise.pairings import bare_powers, counts_by, need_pairing, powers_by, worth_by
from hollowrise.targets import need_target

MOST_BOXES = 4096


def share(field, target, pairing, *, rule=(1, 1)):
    """The SHARE of a PAIRING: its WORTH by the sum of all."""
    need_pairing(field, target, pairing)
    _need_above_nought(field, rule)
    heights, worths = field
    powers = powers_by(bare_powers(heights, target), pairing)
    # By a GOOD RULE no WORTH above 0 comes to 0.
    lines, _ = worths_risen(worths, levels_to(heights, target), rule)
    return by(worth_by(field, powers, counts_by(pairing), rule), lines[target[1]][target[0]])


def drawn(field, target, coins, *, rule=(1, 1)):
    """(The PAIRING that is DRAWN, how many COINS were asked for); TooFew."""
    _need_coins(field, target, coins, rule)
    told, asked = _drawn_by(field, target, coins, rule)
    if len(told) == 0:
        return ((), asked)
    return (told[-1][1], asked)


def story(field, target, coins, *, rule=(1, 1)):
    """A list of (SPOT, PAIRING to which it goes over), one for each SPOT that is LOWERED; TooFew."""
    _need_coins(field, target, coins, rule)
    told, _ = _drawn_by(field, target, coins, rule)
    return told


def boxes(field, target, pairing, *, rule=(1, 1)):
    """A list of the BOXES of a PAIRING, rising; TooGreat where there are more than 4096 of all PAIRINGS together."""
    need_pairing(field, target, pairing)
    _need_above_nought(field, rule)
    bits = bits_for(field[0], target)
    parts = Parts(field, target, rule)
    found = {0: [()]}
    for stage, height in stages_of(field[0], target, bits):
        found = _boxes_behind(stage, parts.part_at(stage.spot, height), found)
        if sum([len(some) for some in found.values()]) > MOST_BOXES:
            # Each BOX goes on as one or as two: there are no fewer at the end.
            raise TooGreat(MOST_BOXES)
    return sorted(found[number_of_ties(bits, pairing)])


def _need_coins(field, target, coins, rule):
    """None, or as drawn and story are refused ahead of TooFew."""
    need_target(field, target)
    if type(coins) is not tuple:
        raise BadCoin(None)
    for number, coin in enumerate(coins):
        if not is_fraction(coin) or not 0 <= coin[0] < coin[1]:
            raise BadCoin(number)
    _need_above_nought(field, rule)


def _need_above_nought(field, rule):
    """None, or BadRule of a RULE that isn't GOOD, BadField("worths") of a FIELD with a WORTH below 0."""
    need_rule(rule)
    if not is_good(rule):
        raise BadRule("by this rule there are no shares")
    for row in field[1]:
        for above, _ in row:
            if above < 0:
                raise BadField("worths")


def _drawn_by(field, target, coins, rule):
    """(As story, how many COINS were asked for); or TooFew."""
    bits = bits_for(field[0], target)
    parts = Parts(field, target, rule)
    told = []
    asked = 0
    number = 0
    for stage, height in stages_of(field[0], target, bits):
        ways = stage.ways(number)
        if len(ways) == 1:
            number = ways[0]
        else:
            if asked == len(coins):
                raise TooFew(asked + 1)
            number = ways[0] if _is_less(coins[asked], parts.part_at(stage.spot, height)) else ways[1]
            asked += 1
        told.append((stage.spot, number))
    return ([(spot, ties_of_number(bits, number)) for spot, number in told], asked)


def _is_less(one, other):
    """True of a FRACTION less than the other."""
    return one[0] * other[1] < other[0] * one[1]


def _boxes_behind(stage, part, found):
    """A dict from all PAIRINGS behind a stage to their BOXES, by that ahead of it and the part by north and south."""
    behind = {}
    for number, some in found.items():
        ways = stage.ways(number)
        if len(ways) == 1:
            behind[ways[0]] = behind.get(ways[0], []) + some
        else:
            # Where one goes over to two, no other one goes over to these.
            behind[ways[0]] = [box + (((0, 1), part),) for box in some]
            behind[ways[1]] = [box + ((part, (1, 1)),) for box in some]
    return behind
