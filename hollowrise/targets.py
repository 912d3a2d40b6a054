"""TARGETS of a FIELD, the SPOTS that are CLOSED or OPEN for them, and the way there."""

from hollowrise.errors import BadTarget
from hollowrise.fields import at, inner_of, is_spot, need_field, need_spot, rim_of, sides, way
from hollowrise.heights import rows_by
from hollowrise.kinds import is_tuple_of, is_whole, need_rule
from hollowrise.rows import done_by, first_row_of


def need_target(field, target):
    """None, or BadTarget of anything that is no TARGET of the FIELD."""
    need_field(field)
    need_target_on(field[0], target)


def is_closed(field, target, spot):
    """True of a SPOT that is CLOSED for a TARGET."""
    return _sunk_at(field, target, spot) > 0


def is_open(field, target, spot):
    """True of a SPOT that is OPEN for a TARGET."""
    return _sunk_at(field, target, spot) == 0


def cone(field, target):
    """The CLOSED SPOTS of a TARGET, rising."""
    need_target(field, target)
    return cone_of(field[0], target)


def field_of(field, target, *, rule=(1, 1)):
    """The FIELD OF A TARGET; refused as led is."""
    need_target(field, target)
    need_rule(rule)
    return done_by(field, rising_to(field[0], target), rule)


def first_rising(field, target):
    """The FIRST ROW to the FIELD OF A TARGET."""
    need_target(field, target)
    return rising_to(field[0], target)


def need_target_on(heights, thing):
    """None, or BadTarget of anything that is no TARGET of good HEIGHTS."""
    if not is_tuple_of(thing, 3) or not is_whole(thing[2]) or not is_spot(thing[:2], sides(heights)):
        raise BadTarget("this is no spot with a height")
    x, y, top = thing
    if (x + y + top) % 2 == 1 or top < at(heights, (x, y)):
        raise BadTarget("this spot can't be raised to this height")
    for edge in rim_of(sides(heights)):
        if top > at(heights, edge) + way((x, y), edge):
            raise BadTarget("this spot can't be raised as high as this")


def sunk(heights, target, spot):
    """How much a SPOT stands beneath its height in the FIELD OF A TARGET: above 0 where it is CLOSED, 0 where OPEN."""
    x, y, top = target
    return top - at(heights, spot) - way((x, y), spot)


def stands(heights, target):
    """True of a TARGET that stands on the FIELD: no SPOT is CLOSED for it."""
    return sunk(heights, target, target[:2]) == 0


def cone_of(heights, target):
    """As cone, of good HEIGHTS and a good TARGET."""
    return tuple([spot for spot in inner_of(sides(heights)) if sunk(heights, target, spot) > 0])


def heights_of_target(heights, target):
    """The HEIGHTS of the FIELD OF A TARGET."""
    return rows_by(sides(heights), lambda spot: at(heights, spot) + max(sunk(heights, target, spot), 0))


def rising_to(heights, target):
    """As first_rising, of good HEIGHTS and a good TARGET."""
    return first_row_of(heights, heights_of_target(heights, target))


def _sunk_at(field, target, spot):
    """As sunk, of anything."""
    need_target(field, target)
    need_spot(spot, sides(field[0]))
    return sunk(field[0], target, spot)
