"""What of PAIRINGS changes where a HOLLOW is RAISED, or a PEAK LOWERED: the TIES AT it, all others stay.

By 42 a CORNER of the SPOT is TAKEN behind just where it wasn't ahead, and the LEG at a CORNER that isn't TAKEN is in
the PAIRING where the WEB has one. CORNERS are bits here, some of them together a number.
"""

from hollowrise.cones import sunk

SOUTH_WEST = 1
SOUTH_EAST = 2
NORTH_WEST = 4
NORTH_EAST = 8
ALL = 15


def sides_at(spot):
    """The four SIDES at an INNER SPOT, rising, each with the CORNERS at which it ends."""
    x, y = spot
    return (
        (((x - 1, y), spot), SOUTH_WEST | NORTH_WEST),
        (((x, y - 1), spot), SOUTH_WEST | SOUTH_EAST),
        ((spot, (x, y + 1)), NORTH_WEST | NORTH_EAST),
        ((spot, (x + 1, y)), SOUTH_EAST | NORTH_EAST),
    )


def legs_at(heights, target, spot):
    """The LEGS of the WEB between two of a HOLLOW's or a PEAK's NEIGHBOURS, rising, each with its CORNER."""
    x, y = spot
    west, south, north, east = (x - 1, y), (x, y - 1), (x, y + 1), (x + 1, y)
    height = heights[y][x]
    found = []
    # The NEIGHBOURS are all as high, so there is a LEG where the SPOT across isn't as high as this one.
    if heights[y - 1][x - 1] != height:
        found.append(((west, south), SOUTH_WEST))
    if heights[y + 1][x - 1] != height:
        found.append(((west, north), NORTH_WEST))
    if heights[y - 1][x + 1] != height:
        found.append(((south, east), SOUTH_EAST))
    if heights[y + 1][x + 1] != height:
        found.append(((north, east), NORTH_EAST))
    return [leg for leg in found if _lies_at_closed(heights, target, leg[0])]


def at_ties(heights, target, spot):
    """The TIES AT a HOLLOW or a PEAK, of the WEB that these HEIGHTS tell, rising."""
    ties = [tie for tie, _ in legs_at(heights, target, spot)]
    if sunk(heights, target, spot) > 0:
        ties = ties + [tie for tie, _ in sides_at(spot)]
    else:
        ties = ties + [tie for tie, _ in sides_at(spot) if _lies_at_closed(heights, target, tie)]
    return tuple(sorted(ties))


def _lies_at_closed(heights, target, tie):
    """True of a TIE of the WEB."""
    one, other = tie
    return sunk(heights, target, one) > 0 or sunk(heights, target, other) > 0


def without(pairing, ties):
    """The TIES of a PAIRING that aren't among these."""
    return tuple([tie for tie in pairing if tie not in ties])


def taken_by(spot, pairing):
    """The CORNERS TAKEN at a SPOT, as a number."""
    corners = 0
    for tie, ends in sides_at(spot):
        if tie in pairing:
            corners = corners | ends
    return corners


def corners_taken(spot, pairing):
    """The CORNERS TAKEN at a SPOT, rising."""
    x, y = spot
    places = ((SOUTH_WEST, (x - 1, y - 1)), (NORTH_WEST, (x - 1, y)), (SOUTH_EAST, (x, y - 1)), (NORTH_EAST, (x, y)))
    corners = taken_by(spot, pairing)
    return tuple([place for bit, place in places if corners & bit != 0])


def ways_behind(heights, target, spot, ahead):
    """The TIES AT a SPOT that PAIRINGS have behind, by the CORNERS TAKEN ahead: a list, or two of them.

    Of two the first has the SIDES to north and south.
    """
    left = ALL ^ ahead
    legs = [tie for tie, corner in legs_at(heights, target, spot) if corner & left == 0]
    west, south, north, east = sides_at(spot)
    if left == ALL:
        return [[south[0], north[0]], [west[0], east[0]]]
    return [legs + [tie for tie, ends in (west, south, north, east) if ends == left]]


def turned(ahead, behind, target, spot, pairing):
    """The PAIRINGS, rising, by the HEIGHTS behind that BELONG to one by those ahead, where a SPOT goes UP or DOWN."""
    rest = without(pairing, at_ties(ahead, target, spot))
    ways = ways_behind(behind, target, spot, taken_by(spot, pairing))
    return tuple(sorted([tuple(sorted(rest + tuple(ties))) for ties in ways]))
