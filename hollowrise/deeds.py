"""HOLLOWS and PEAKS, RAISED and LOWERED, one or several at once."""

from hollowrise.errors import BadSpot, NoHollow, NoPeak, Nought
from hollowrise.fields import at, inner_of, need_field, need_spot, sides, with_at
from hollowrise.fractions import by, fraction, plus, so_many, times
from hollowrise.kinds import need_rule

UP = 1
DOWN = -1
# Where all BELOWS together are no more, one division at the end takes less long than several on the way.
SMALL = 10 ** 15


def hollows(field):
    """All HOLLOWS, rising."""
    need_field(field)
    return movable_spots(field[0], UP)


def peaks(field):
    """All PEAKS, rising."""
    need_field(field)
    return movable_spots(field[0], DOWN)


def raised(field, spot, *, rule=(1, 1)):
    """The FIELD with a HOLLOW RAISED; NoHollow, Nought."""
    need_field(field)
    need_spot(spot, sides(field[0]))
    need_rule(rule)
    return moved(field, (spot,), UP, rule)


def lowered(field, spot, *, rule=(1, 1)):
    """The FIELD with a PEAK LOWERED; NoPeak, Nought."""
    need_field(field)
    need_spot(spot, sides(field[0]))
    need_rule(rule)
    return moved(field, (spot,), DOWN, rule)


def raised_all(field, some, *, rule=(1, 1)):
    """The FIELD with some HOLLOWS RAISED at once; NoHollow, Nought of the first for which one is due."""
    need_field(field)
    need_rising_spots(some, sides(field[0]))
    need_rule(rule)
    return moved(field, some, UP, rule)


def lowered_all(field, some, *, rule=(1, 1)):
    """The FIELD with some PEAKS LOWERED at once; NoPeak, Nought of the first for which one is due."""
    need_field(field)
    need_rising_spots(some, sides(field[0]))
    need_rule(rule)
    return moved(field, some, DOWN, rule)


def need_rising_spots(thing, size):
    """None, or BadSpot of anything that is no rising tuple of SPOTS of a BOARD of such a size."""
    if type(thing) is not tuple:
        raise BadSpot("this is no tuple of spots")
    for spot in thing:
        need_spot(spot, size)
    for one, other in zip(thing, thing[1:]):
        if one >= other:
            raise BadSpot("these spots don't rise")


def moved(field, some, step, rule):
    """The FIELD with some SPOTS gone two UP or DOWN, each as if it alone went."""
    heights, worths = field
    # No two of them are NEIGHBOURS, so what the FIELD has as it is handed in is what each one wants.
    heights_behind, worths_behind = field
    for spot in some:
        worth = worth_moved(heights, worths, spot, step, rule)
        heights_behind = with_at(heights_behind, spot, height_behind(heights, spot, step))
        worths_behind = with_at(worths_behind, spot, worth)
    return (heights_behind, worths_behind)


def worth_moved(heights, worths, spot, step, rule):
    """The WORTH that a SPOT has behind it goes UP or DOWN, of rows that are tuples or lists; or as it is refused."""
    need_movable(heights, spot, step)
    x, y = spot
    row = worths[y]
    return worth_behind(spot, (row[x - 1], worths[y - 1][x], worths[y + 1][x], row[x + 1]), row[x], rule)


def movable_spots(heights, step):
    """All HOLLOWS where the step is UP, all PEAKS where it is DOWN, rising."""
    return tuple([spot for spot in inner_of(sides(heights)) if is_movable(heights, spot, step)])


def is_movable(heights, spot, step):
    """True of a HOLLOW where the step is UP, of a PEAK where it is DOWN."""
    x, y = spot
    row = heights[y]
    if not 0 < x < len(row) - 1 or not 0 < y < len(heights) - 1:
        return False
    height = row[x] + step
    return row[x - 1] == height and row[x + 1] == height and heights[y - 1][x] == height == heights[y + 1][x]


def need_movable(heights, spot, step):
    """None, or NoHollow, NoPeak of a SPOT that can't go UP, DOWN."""
    if is_movable(heights, spot, step):
        return
    if step == UP:
        raise NoHollow(spot)
    raise NoPeak(spot)


def height_behind(heights, spot, step):
    """The height to which a SPOT goes UP or DOWN."""
    return at(heights, spot) + 2 * step


def worth_behind(spot, near, own, rule):
    """The WORTH that a SPOT has behind a DEED, by those of its NEIGHBOURS, as they rise, and its own; or Nought."""
    worth = sum_by_own(near, own, rule)
    if worth[0] == 0:
        raise Nought(spot)
    return worth


def sum_by_own(near, own, rule):
    """As worth_behind, also where it is 0."""
    a, b = rule
    (west, west_below), (south, south_below), (north, north_below), (east, east_below) = near
    if west_below + south_below + north_below + east_below > SMALL:
        # Long numbers are kept short by what they share on the way.
        return by(plus(so_many(times(near[0], near[3]), a), so_many(times(near[1], near[2]), b)), own)
    level = west_below * east_below
    upright = south_below * north_below
    return fraction((a * west * east * upright + b * south * north * level) * own[1], level * upright * own[0])
