"""TARGETS of a FIELD, the SPOTS that are CLOSED or OPEN for them, and the way there."""

from hollowrise.cones import cone_of, heights_of_target, levels_to, lists_of_target, sunk, worths_risen
from hollowrise.errors import BadTarget
from hollowrise.fields import need_field, need_spot, sides
from hollowrise.kinds import need_rule
from hollowrise.rows import done_by, first_deeds


def need_target(field, target):
    """None, or BadTarget of anything that is no TARGET of the FIELD."""
    need_field(field)
    need_target_on(field[0], target)


def is_closed(field, target, spot):
    """True of a SPOT that is CLOSED for a TARGET."""
    return _sunk_at(field, target, spot) > 0


def is_open(field, target, spot):
    """True of a SPOT that is OPEN for a TARGET."""
    return _sunk_at(field, target, spot) == 0


def cone(field, target):
    """The CLOSED SPOTS of a TARGET, rising."""
    need_target(field, target)
    return cone_of(field[0], target)


def field_of(field, target, *, rule=(1, 1)):
    """The FIELD OF A TARGET; refused as led is."""
    need_target(field, target)
    need_rule(rule)
    heights, worths = field
    told = worths_risen(worths, levels_to(heights, target), rule)
    if told is None:
        # By this it is refused at the first of its DEEDS for which that is due.
        return done_by(field, rising_to(heights, target), rule)
    return (heights_of_target(heights, target), tuple([tuple(line) for line in told[0]]))


def first_rising(field, target):
    """The FIRST ROW to the FIELD OF A TARGET."""
    need_target(field, target)
    return rising_to(field[0], target)


def need_target_on(heights, thing):
    """None, or BadTarget of anything that is no TARGET of good HEIGHTS."""
    if type(thing) is not tuple or len(thing) != 3:
        raise BadTarget("this is no spot with a height")
    x, y, top = thing
    if type(x) is not int or type(y) is not int or type(top) is not int:
        raise BadTarget("this is no spot with a height")
    if not 0 <= y < len(heights) or not 0 <= x < len(heights[0]):
        raise BadTarget("this is no spot of the field")
    row = heights[y]
    if top < row[x] or (top - row[x]) % 2 == 1:
        raise BadTarget("this spot can't be raised to this height")
    # No SPOT of the RIM sets a closer bound than one of the four that are in line with this one.
    if top > row[0] + x or top > row[-1] + len(row) - 1 - x:
        raise BadTarget("this spot can't be raised as high as this")
    if top > heights[0][x] + y or top > heights[-1][x] + len(heights) - 1 - y:
        raise BadTarget("this spot can't be raised as high as this")


def rising_to(heights, target):
    """As first_rising, of good HEIGHTS and a good TARGET."""
    # As many of these are RAISED as are CLOSED, and to these heights; the others stay.
    reached = [list(row) for row in heights]
    return tuple(first_deeds(reached, lists_of_target(heights, target), "up", list(cone_of(heights, target))))


def _sunk_at(field, target, spot):
    """As sunk, of anything."""
    need_target(field, target)
    need_spot(spot, sides(field[0]))
    return sunk(field[0], target, spot)
