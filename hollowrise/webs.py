"""KNOTS, TIES, and the WEB that a FIELD tells for a TARGET."""

from hollowrise.cones import spans_of, sunk
from hollowrise.errors import BadSpot
from hollowrise.fields import at, is_spot, need_field, need_spot, sides, way
from hollowrise.kinds import is_tuple_of
from hollowrise.targets import need_target

# More than a BOARD has CORNERS side by side.
SIDE = 16


def knots_at(field, corner):
    """The one or two KNOTS of a CORNER, rising."""
    need_field(field)
    heights, _ = field
    if not is_spot(corner, corners_size(heights)):
        raise BadSpot("the field has no such corner")
    return knots_of(heights, corner)


def ends(field, tie):
    """The two KNOTS in which a TIE ends, rising."""
    need_field(field)
    heights, _ = field
    if not is_tie(heights, tie):
        raise BadSpot("the field has no such tie")
    return ends_of(heights, tie)


def is_side(tie):
    """True of a SIDE, False of a LEG, of a good TIE."""
    one, other = tie
    return way(one, other) == 1


def web(field, target):
    """The WEB: all TIES that lie at a CLOSED SPOT, rising."""
    need_target(field, target)
    return web_of(field[0], target)


def knots(field, target):
    """The KNOTS of the WEB, rising."""
    need_target(field, target)
    return tuple(knots_by(field[0], target))


def ties_at(field, target, spot):
    """The WEB's TIES that lie at a SPOT, rising."""
    need_target(field, target)
    heights, _ = field
    need_spot(spot, sides(heights))
    return ties_by(heights, target, spot)


def corners_size(heights):
    """(WIDE, HIGH) of the CORNERS."""
    wide, high = sides(heights)
    return (wide - 1, high - 1)


def knots_of(heights, corner):
    """As knots_at, of a good CORNER."""
    x, y = corner
    if heights[y][x] != heights[y + 1][x + 1]:
        return ((x, y, "ne"), (x, y, "sw"))
    if heights[y][x + 1] != heights[y + 1][x]:
        return ((x, y, "nw"), (x, y, "se"))
    return ((x, y, "all"),)


def ends_of(heights, tie):
    """As ends, of a good TIE."""
    (x, y), (x_other, y_other) = tie
    if y == y_other:
        return _side_ends(heights, ((x, y - 1), ("nw", "ne")), ((x, y), ("sw", "se")))
    if x == x_other:
        return _side_ends(heights, ((x - 1, y), ("se", "ne")), ((x, y), ("sw", "nw")))
    # A LEG: its CORNER is called by the SPOT that is sw there.
    return knots_of(heights, (x, min(y, y_other)))


def _side_ends(heights, one, other):
    """The two KNOTS of a SIDE: of each of its CORNERS the one that is called by one of two words, or is all there."""
    found = []
    for corner, words in (one, other):
        found = found + [knot for knot in knots_of(heights, corner) if knot[2] in words + ("all",)]
    return tuple(found)


def is_tie(heights, thing):
    """True of a TIE of HEIGHTS, of anything."""
    size = sides(heights)
    if not is_tuple_of(thing, 2) or not is_spot(thing[0], size) or not is_spot(thing[1], size):
        return False
    one, other = thing
    if one >= other:
        return False
    if way(one, other) == 1:
        return _meet_at_two_corners(one, other, size)
    return is_leg(heights, one, other)


def _meet_at_two_corners(one, other, size):
    """True of two NEIGHBOURS on both sides of which a BOARD of such a size goes on."""
    x, y = one
    wide, high = size
    if y == other[1]:
        return 0 < y < high - 1
    return 0 < x < wide - 1


def is_leg(heights, one, other):
    """True of two SPOTS of one CORNER between which a LEG lies."""
    (x, y), (x_other, y_other) = (one, other)
    if abs(x - x_other) != 1 or abs(y - y_other) != 1:
        return False
    return at(heights, one) == at(heights, other) and heights[y_other][x] != heights[y][x_other]


def tie_of(one, other):
    """The TIE between two SPOTS."""
    return (min(one, other), max(one, other))


def web_of(heights, target):
    """As web, of good HEIGHTS and a good TARGET."""
    ties = []
    for x, (south, north), (south_east, north_east) in _columns_beside(heights, target):
        for y in range(min(south, south_east) - 1, max(north, north_east) + 1):
            spot = (x, y)
            row = heights[y]
            # Each TIE from here on, as they rise, is there where this SPOT is CLOSED or the other one.
            closed = south <= y < north
            if closed or y + 1 == south < north:
                ties.append((spot, (x, y + 1)))
            if closed or south_east < y <= north_east:
                if heights[y - 1][x + 1] == row[x] and heights[y - 1][x] != row[x + 1]:
                    ties.append((spot, (x + 1, y - 1)))
            if closed or south_east <= y < north_east:
                ties.append((spot, (x + 1, y)))
            if closed or south_east <= y + 1 < north_east:
                if heights[y + 1][x + 1] == row[x] and heights[y + 1][x] != row[x + 1]:
                    ties.append((spot, (x + 1, y + 1)))
    return tuple(ties)


def knots_by(heights, target):
    """A list of the KNOTS of the WEB, rising."""
    knots = []
    for x, (south, north), (south_east, north_east) in _columns_beside(heights, target):
        for y in range(min(south, south_east) - 1, max(north, north_east)):
            below = heights[y]
            above = heights[y + 1]
            if below[x] != above[x + 1]:
                # In each of the two end TIES at three of the SPOTS.
                if south_east <= y < north_east or south <= y + 1 < north or south_east <= y + 1 < north_east:
                    knots.append((x, y, "ne"))
                if south_east <= y < north_east or south <= y + 1 < north or south <= y < north:
                    knots.append((x, y, "sw"))
            elif below[x + 1] != above[x]:
                if south <= y < north or south_east <= y + 1 < north_east or south <= y + 1 < north:
                    knots.append((x, y, "nw"))
                if south <= y < north or south_east <= y + 1 < north_east or south_east <= y < north_east:
                    knots.append((x, y, "se"))
            else:
                knots.append((x, y, "all"))
    return knots


def ties_by(heights, target, spot):
    """As ties_at, of good HEIGHTS, a good TARGET and a good SPOT."""
    x, y = spot
    wide, high = sides(heights)
    closed = sunk(heights, target, spot) > 0
    ties = []
    for a in range(max(x - 1, 0), min(x + 2, wide)):
        for b in range(max(y - 1, 0), min(y + 2, high)):
            other = (a, b)
            if (closed or sunk(heights, target, other) > 0) and other != spot:
                if a == x or b == y or is_leg(heights, spot, other):
                    ties.append((spot, other) if spot < other else (other, spot))
    return tuple(ties)


def knots_numbered(heights, target, thing):
    """Both KNOTS in which a TIE of the WEB ends, as numbers, each KNOT one; None of anything else."""
    if type(thing) is not tuple or len(thing) != 2:
        return None
    one, other = thing
    if type(one) is not tuple or type(other) is not tuple or len(one) != 2 or len(other) != 2:
        return None
    x, y = one
    a, b = other
    if type(x) is not int or type(y) is not int or type(a) is not int or type(b) is not int:
        return None
    # Only where both are NEIGHBOURS, or at one CORNER, and rise.
    if not (a == x + 1 and -1 <= b - y <= 1) and not (a == x and b == y + 1):
        return None
    wide, high = sides(heights)
    if not (0 <= x and a < wide and 0 <= y < high and 0 <= b < high):
        return None
    if sunk(heights, target, one) <= 0 and sunk(heights, target, other) <= 0:
        return None
    return ends_numbered(heights, thing)


def ends_numbered(heights, tie):
    """As knots_numbered, of two SPOTS of which one is INNER, NEIGHBOURS or at one CORNER; None where no LEG is there.

    A CORNER has two numbers: the greater is that of the KNOT that is called by a northern SPOT, ne or nw, where it has
    two, the other one that of the KNOT called by a southern SPOT, or of all.
    """
    (x, y), (a, b) = tie
    if a == x:
        west = 2 * (SIDE * (x - 1) + y)
        east = 2 * (SIDE * x + y)
        if heights[y][x - 1] != heights[b][x]:
            west += 1
        if heights[y][x + 1] != heights[b][x]:
            east += 1
        return (west, east)
    if b == y:
        south = 2 * (SIDE * x + y - 1)
        if heights[y - 1][x] != heights[y][a] or heights[y - 1][a] != heights[y][x]:
            south += 1
        return (south, 2 * (SIDE * x + y))
    if heights[y][x] != heights[b][a] or heights[y][a] == heights[b][x]:
        return None
    corner = 2 * (SIDE * x + min(y, b))
    return (corner, corner + 1)


def _columns_beside(heights, target):
    """(X, span of the CLOSED SPOTS of that column, that of the next one to the east), where either has some."""
    none = (target[1], target[1])
    ahead = none
    told = []
    for x, south, north in spans_of(heights, target):
        told.append((x - 1, ahead, (south, north)))
        ahead = (south, north)
    if len(told) > 0:
        told.append((told[-1][0] + 1, ahead, none))
    return told
