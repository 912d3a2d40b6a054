"""SUMS of letters: POWERS with NUMBERS, the SUM OF A TARGET, and WEIGHTS."""

from hollowrise.cones import cone_of, stands, sunk
from hollowrise.errors import BadPowers, BadSum, BadWeighing, TooGreat
from hollowrise.fields import MOST_SIDE, at, need_field, need_spot, sides
from hollowrise.fractions import plus, power, so_many, times
from hollowrise.kinds import is_tuple_of, is_whole, need_rule
from hollowrise.pairings import bare_powers, counts_by, pairings_of, powers_by
from hollowrise.products import MOST_POWER, multiplied
from hollowrise.targets import need_target
from hollowrise.webs import ties_by

MOST_ROWS = 4096
MOST_PRODUCTS = 16384
# Up to so many products it takes less long to multiply POWERS as they are.
FEW = 9
LAST_PLACE = 120
MOST_STEP = 3
MOST_START = 9


def is_powers(thing):
    """True of POWERS, of anything."""
    try:
        need_powers(thing)
    except BadPowers:
        return False
    return True


def is_sum(thing):
    """True of a SUM, of anything."""
    try:
        need_sum(thing)
    except BadSum:
        return False
    return True


def need_powers(thing):
    """None, or BadPowers(number) of anything that are no POWERS."""
    if type(thing) is not tuple:
        raise BadPowers(None)
    number = _wrong_with(thing)
    if number is not None:
        raise BadPowers(number)


def need_sum(thing):
    """None, or BadSum(number) of anything that is no SUM."""
    if type(thing) is not tuple:
        raise BadSum(None)
    ahead = None
    for number, row in enumerate(thing):
        if type(row) is not tuple or len(row) != 2:
            raise BadSum(number)
        powers, many = row
        if type(powers) is not tuple or type(many) is not int or many == 0 or _wrong_with(powers) is not None:
            raise BadSum(number)
        if ahead is not None and powers <= ahead:
            raise BadSum(number)
        ahead = powers


def sum_plus(one, other):
    """Both SUMS together; BadSum, TooGreat."""
    need_sum(one)
    need_sum(other)
    numbers = {powers: number for powers, number in one}
    for powers, number in other:
        numbers[powers] = numbers.get(powers, 0) + number
    return _as_sum(numbers)


def sum_times(one, other):
    """Both SUMS multiplied; BadSum, TooGreat."""
    need_sum(one)
    need_sum(other)
    many = len(one) * len(other)
    if many > MOST_PRODUCTS:
        raise TooGreat(MOST_PRODUCTS)
    if many > FEW:
        return multiplied(one, other, MOST_ROWS)
    numbers = {}
    for powers, number in one:
        for powers_other, number_other in other:
            both = _powers_times(powers, powers_other)
            numbers[both] = numbers.get(both, 0) + number * number_other
    told = tuple(sorted([(powers, number) for powers, number in numbers.items() if number != 0]))
    for powers, _ in told:
        for _, often in powers:
            if abs(often) > MOST_POWER:
                raise TooGreat(MOST_ROWS)
    return told


def so_often(thing, number):
    """The SUM with each NUMBER so often; BadSum."""
    need_sum(thing)
    if not is_whole(number):
        raise BadSum(None)
    if number == 0:
        return ()
    return tuple([(powers, many * number) for powers, many in thing])


def put_in(field, thing):
    """The FRACTION that a SUM is for the FIELD's WORTHS; BadSum."""
    need_field(field)
    need_sum(thing)
    heights, worths = field
    for number, (powers, _) in enumerate(thing):
        if _first_beyond(heights, powers) is not None:
            raise BadSum(number)
    known = {}
    told = (0, 1)
    for powers, many in thing:
        worth = (1, 1)
        for spot, often in powers:
            if (spot, often) not in known:
                known[(spot, often)] = power(at(worths, spot), often)
            worth = times(worth, known[(spot, often)])
        told = plus(told, so_many(worth, many))
    return told


def sum_of(field, target, *, rule=(1, 1)):
    """The SUM OF A TARGET; TooGreat of more than 4096 PAIRINGS."""
    need_target(field, target)
    need_rule(rule)
    a, b = rule
    numbers = {}
    for pairing, powers in _powers_of_all(field[0], target):
        often_a, often_b = counts_by(pairing)
        brought = times(power((a, 1), often_a), power((b, 1), often_b))
        # By T6 no other PAIRING has these POWERS.
        numbers[powers] = brought[0]
    return _as_sum(numbers)


def by_powers(field, target, powers):
    """The PAIRING with these POWERS, None without; BadPowers, TooGreat."""
    need_target(field, target)
    need_powers(powers)
    for pairing, others in _powers_of_all(field[0], target):
        if others == powers:
            return pairing
    return None


def met(field, target, spot):
    """All POWERS, 0 too, that a SPOT has in PAIRINGS, rising; TooGreat."""
    need_target(field, target)
    heights, _ = field
    need_spot(spot, sides(heights))
    bare = [often for other, often in bare_powers(heights, target) if other == spot]
    # A SPOT that isn't among these has none in any PAIRING.
    often = sum(bare)
    found = {}
    for pairing in pairings_of(heights, target):
        found[often - len([tie for tie in pairing if spot in tie])] = True
    return tuple(sorted(found))


def most_met(field, target, spot):
    """The BOUNDS of a SPOT's POWERS."""
    need_target(field, target)
    heights, _ = field
    need_spot(spot, sides(heights))
    if stands(heights, target) and spot == target[:2]:
        return (1, 1)
    many = len(ties_by(heights, target, spot))
    if sunk(heights, target, spot) > 0:
        return (-1, many // 2 - 1)
    return (0, min(many, 1))


def weight(weighing, x, y, height):
    """The WEIGHT of a SPOT at a height: the product of three numbers of one sort of row; BadWeighing."""
    _need_weighing(weighing)
    return _weight_of(weighing, x, y, height)


def moment(field, powers, weighing):
    """POWERS times WEIGHTS, at the FIELD's heights, together; BadPowers, BadWeighing."""
    need_field(field)
    need_powers(powers)
    heights, _ = field
    beyond = _first_beyond(heights, powers)
    if beyond is not None:
        raise BadPowers(beyond)
    _need_weighing(weighing)
    return sum([often * _weight_of(weighing, x, y, at(heights, (x, y))) for (x, y), often in powers])


def closed_worth(field, target):
    """All CLOSED SPOTS' WORTHS multiplied."""
    need_target(field, target)
    heights, worths = field
    told = (1, 1)
    for spot in cone_of(heights, target):
        told = times(told, at(worths, spot))
    return told


def _wrong_with(thing):
    """The number of the first thing, of a tuple, by which it is no POWERS; None of POWERS."""
    # Each row of a SUM that is handed in comes by here, so this calls nothing for each SPOT that it needn't.
    ahead = -1
    number = 0
    for pair in thing:
        if type(pair) is not tuple or len(pair) != 2:
            return number
        spot, often = pair
        if type(spot) is not tuple or len(spot) != 2:
            return number
        x, y = spot
        if type(x) is not int or type(y) is not int or type(often) is not int:
            return number
        # As SPOTS rise, so do these; where Y is right they are from 0 to the last one just where X is, too.
        place = MOST_SIDE * x + y
        if place <= ahead or place > LAST_PLACE or y < 0 or y >= MOST_SIDE:
            return number
        if often > MOST_POWER or often < -MOST_POWER or often == 0:
            return number
        ahead = place
        number += 1
    return None


def _as_sum(numbers):
    """The SUM that a dict from POWERS to NUMBERS, 0 too, tells; TooGreat."""
    told = tuple(sorted([(powers, number) for powers, number in numbers.items() if number != 0]))
    if len(told) > MOST_ROWS:
        raise TooGreat(MOST_ROWS)
    return told


def _powers_times(one, other):
    """POWERS multiplied, perhaps with some beyond their bounds."""
    often = {spot: many for spot, many in one}
    for spot, many in other:
        often[spot] = often.get(spot, 0) + many
    return tuple([(spot, often[spot]) for spot in sorted(often) if often[spot] != 0])


def _first_beyond(heights, powers):
    """The number of the first SPOT that isn't on the BOARD, None without."""
    wide, high = sides(heights)
    for number, ((x, y), _) in enumerate(powers):
        if x >= wide or y >= high:
            return number
    return None


def _powers_of_all(heights, target):
    """A list of (PAIRING, its POWERS), as PAIRINGS rise; TooGreat."""
    bare = bare_powers(heights, target)
    return [(pairing, powers_by(bare, pairing)) for pairing in pairings_of(heights, target)]


def _need_weighing(thing):
    """None, or BadWeighing(place) of anything that is no WEIGHING."""
    if not is_tuple_of(thing, 4):
        raise BadWeighing(None)
    if not _is_between(thing[0], MOST_STEP):
        raise BadWeighing(0)
    for place, pair in enumerate(thing):
        if place > 0:
            if not is_tuple_of(pair, 2) or not _is_between(pair[0], MOST_START) or not _is_between(pair[1], MOST_START):
                raise BadWeighing(place)


def _is_between(thing, most):
    """True of a whole number that is no farther from 0 than the most, of anything."""
    return is_whole(thing) and -most <= thing <= most


def _weight_of(weighing, x, y, height):
    """As weight, of a good WEIGHING."""
    step, xs, ys, hs = weighing
    return _number_at(step, xs, x) * _number_at(step, ys, y) * _number_at(step, hs, height)


def _number_at(step, pair, place):
    """S(place), where each S is the step times the one beside it less the one beside that, to both sides."""
    one, other = pair
    if place < 0:
        # S(1 - K) goes on just as S(K) does.
        one, other = other, one
        place = 1 - place
    for _ in range(place):
        one, other = other, step * other - one
    return one
