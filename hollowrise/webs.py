"""KNOTS, TIES, and the WEB that a FIELD tells for a TARGET."""

from hollowrise.errors import BadSpot
from hollowrise.fields import around, at, is_spot, need_field, need_spot, sides, way
from hollowrise.kinds import is_tuple_of
from hollowrise.targets import cone_of, need_target


def knots_at(field, corner):
    """The one or two KNOTS of a CORNER, rising."""
    need_field(field)
    heights, _ = field
    if not is_spot(corner, corners_size(heights)):
        raise BadSpot("the field has no such corner")
    return knots_of(heights, corner)


def ends(field, tie):
    """The two KNOTS in which a TIE ends, rising."""
    need_field(field)
    heights, _ = field
    if not is_tie(heights, tie):
        raise BadSpot("the field has no such tie")
    return ends_of(heights, tie)


def is_side(tie):
    """True of a SIDE, False of a LEG, of a good TIE."""
    one, other = tie
    return way(one, other) == 1


def web(field, target):
    """The WEB: all TIES that lie at a CLOSED SPOT, rising."""
    need_target(field, target)
    return web_of(field[0], target)


def knots(field, target):
    """The KNOTS of the WEB, rising."""
    need_target(field, target)
    heights, _ = field
    return knots_among(heights, web_of(heights, target))


def ties_at(field, target, spot):
    """The WEB's TIES that lie at a SPOT, rising."""
    need_target(field, target)
    heights, _ = field
    need_spot(spot, sides(heights))
    return tuple([tie for tie in web_of(heights, target) if spot in tie])


def corners_size(heights):
    """(WIDE, HIGH) of the CORNERS."""
    wide, high = sides(heights)
    return (wide - 1, high - 1)


def knots_of(heights, corner):
    """As knots_at, of a good CORNER."""
    x, y = corner
    if heights[y][x] != heights[y + 1][x + 1]:
        return ((x, y, "ne"), (x, y, "sw"))
    if heights[y][x + 1] != heights[y + 1][x]:
        return ((x, y, "nw"), (x, y, "se"))
    return ((x, y, "all"),)


def ends_of(heights, tie):
    """As ends, of a good TIE."""
    (x, y), (x_other, y_other) = tie
    if y == y_other:
        return _side_ends(heights, ((x, y - 1), ("nw", "ne")), ((x, y), ("sw", "se")))
    if x == x_other:
        return _side_ends(heights, ((x - 1, y), ("se", "ne")), ((x, y), ("sw", "nw")))
    # A LEG: its CORNER is called by the SPOT that is sw there.
    return knots_of(heights, (x, min(y, y_other)))


def _side_ends(heights, one, other):
    """The two KNOTS of a SIDE: of each of its CORNERS the one that is called by one of two words, or is all there."""
    found = []
    for corner, words in (one, other):
        found = found + [knot for knot in knots_of(heights, corner) if knot[2] in words + ("all",)]
    return tuple(found)


def is_tie(heights, thing):
    """True of a TIE of HEIGHTS, of anything."""
    size = sides(heights)
    if not is_tuple_of(thing, 2) or not is_spot(thing[0], size) or not is_spot(thing[1], size):
        return False
    one, other = thing
    if one >= other:
        return False
    if way(one, other) == 1:
        return _meet_at_two_corners(one, other, size)
    return is_leg(heights, one, other)


def _meet_at_two_corners(one, other, size):
    """True of two NEIGHBOURS on both sides of which a BOARD of such a size goes on."""
    x, y = one
    wide, high = size
    if y == other[1]:
        return 0 < y < high - 1
    return 0 < x < wide - 1


def is_leg(heights, one, other):
    """True of two SPOTS of one CORNER between which a LEG lies."""
    (x, y), (x_other, y_other) = (one, other)
    if abs(x - x_other) != 1 or abs(y - y_other) != 1:
        return False
    return at(heights, one) == at(heights, other) and heights[y_other][x] != heights[y][x_other]


def ties_round(heights, spot):
    """All TIES that lie at an INNER SPOT, in no order."""
    x, y = spot
    across = [(a, b) for a in (x - 1, x + 1) for b in (y - 1, y + 1) if is_leg(heights, spot, (a, b))]
    return [tie_of(spot, other) for other in list(around(spot)) + across]


def tie_of(one, other):
    """The TIE between two SPOTS."""
    return (min(one, other), max(one, other))


def web_of(heights, target):
    """As web, of good HEIGHTS and a good TARGET."""
    ties = {}
    for spot in cone_of(heights, target):
        for tie in ties_round(heights, spot):
            ties[tie] = True
    return tuple(sorted(ties))


def knots_among(heights, ties):
    """The KNOTS in which TIES end, rising."""
    found = {}
    for tie in ties:
        for knot in ends_of(heights, tie):
            found[knot] = True
    return tuple(sorted(found))
