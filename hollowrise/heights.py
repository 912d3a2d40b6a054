"""HEIGHTS by themselves: held against others of one BOARD and RIM, and all of these."""

from hollowrise.errors import BadHeights, TooGreat
from hollowrise.fields import at, rim_of, sides, wrong_with_heights

MOST_HEIGHTS = 4096


def is_heights(thing):
    """True of HEIGHTS, of anything."""
    return wrong_with_heights(thing) is None


def lesser(one, other):
    """The less of both at each SPOT."""
    need_alike(one, other)
    return lesser_of(one, other)


def greater(one, other):
    """The more of both at each SPOT."""
    need_alike(one, other)
    return greater_of(one, other)


def lowest(heights):
    """Those of this RIM that are nowhere higher than any others."""
    need_heights(heights)
    return lowest_of(heights)


def highest(heights):
    """Those of this RIM that are nowhere lower than any others."""
    need_heights(heights)
    return highest_of(heights)


def apart(one, other):
    """By how many DEEDS both are apart."""
    need_alike(one, other)
    return sum([abs(at(one, spot) - at(other, spot)) for spot in _row_by_row(one)]) // 2


def all_heights(heights):
    """A list of all of this BOARD and RIM, rising; TooGreat where there are more than 4096."""
    if how_many_heights(heights) > MOST_HEIGHTS:
        raise TooGreat(MOST_HEIGHTS)
    return all_between(lowest_of(heights), highest_of(heights))


def how_many_heights(heights):
    """How many there are of this BOARD and RIM, however many."""
    need_heights(heights)
    return how_many_between(lowest_of(heights), highest_of(heights))


def need_heights(thing):
    """None, or BadHeights of anything that are no HEIGHTS."""
    if not is_heights(thing):
        raise BadHeights("these are no heights")


def need_alike(one, other):
    """None, or BadHeights of anything but HEIGHTS of one BOARD and RIM."""
    need_heights(one)
    need_heights(other)
    if sides(one) != sides(other):
        raise BadHeights("these are heights of another board")
    for spot in rim_of(sides(one)):
        if at(one, spot) != at(other, spot):
            raise BadHeights("these are heights of another rim")


def lesser_of(one, other):
    """As lesser, of HEIGHTS that are alike."""
    return rows_by(sides(one), lambda spot: min(at(one, spot), at(other, spot)))


def greater_of(one, other):
    """As greater, of HEIGHTS that are alike."""
    return rows_by(sides(one), lambda spot: max(at(one, spot), at(other, spot)))


def lowest_of(heights):
    """As lowest, of good HEIGHTS."""
    return rows_by(sides(heights), lambda spot: span_at(heights, spot)[0])


def highest_of(heights):
    """As highest, of good HEIGHTS."""
    return rows_by(sides(heights), lambda spot: span_at(heights, spot)[1])


def span_at(heights, spot):
    """(LOWEST, HIGHEST) of the RIM at a SPOT."""
    x, y = spot
    row = heights[y]
    east = len(row) - 1 - x
    north = len(heights) - 1 - y
    # Along each side of the RIM heights are one apart: no SPOT of it sets closer bounds than the one in line with this.
    low = max(row[0] - x, row[-1] - east, heights[0][x] - y, heights[-1][x] - north)
    return (low, min(row[0] + x, row[-1] + east, heights[0][x] + y, heights[-1][x] + north))


def rows_by(size, told):
    """Rows of what is told of each SPOT of a BOARD of such a size."""
    wide, high = size
    return tuple([tuple([told((x, y)) for x in range(wide)]) for y in range(high)])


def all_between(least, most):
    """All HEIGHTS that are nowhere lower than the least, nowhere higher than the most, rising.

    What is told up to some SPOT can always be gone on with: steps of one, from bounds that are HEIGHTS themselves,
    leave a height to each SPOT behind. So no list on the way is longer than the last one.
    """
    wide, high = sides(least)
    told = [()]
    for spot in _row_by_row(least):
        told = [ahead + (height,) for ahead in told for height in _next_heights(ahead, spot, least, most)]
    return [tuple([flat[y * wide:(y + 1) * wide] for y in range(high)]) for flat in told]


def how_many_between(least, most):
    """How many HEIGHTS are nowhere lower than the least, nowhere higher than the most."""
    wide, _ = sides(least)
    counts = {(): 1}
    for spot in _row_by_row(least):
        behind = {}
        for ahead, many in counts.items():
            for height in _next_heights(ahead, spot, least, most):
                # What lies farther back than one row is no NEIGHBOUR of what follows.
                last = (ahead + (height,))[-wide:]
                behind[last] = behind.get(last, 0) + many
        counts = behind
    return sum(counts.values())


def _row_by_row(heights):
    """All SPOTS in the order in which HEIGHTS tell them: row by row, from west to east."""
    wide, high = sides(heights)
    return [(x, y) for y in range(high) for x in range(wide)]


def _next_heights(ahead, spot, least, most):
    """The heights, rising, at which a SPOT may stand behind those ahead of it, told row by row."""
    x, y = spot
    wide, _ = sides(least)
    low = at(least, spot)
    high = at(most, spot)
    # All of its evenness that are no more than one away from a NEIGHBOUR are just one away.
    if x > 0:
        low = max(low, ahead[-1] - 1)
        high = min(high, ahead[-1] + 1)
    if y > 0:
        low = max(low, ahead[-wide] - 1)
        high = min(high, ahead[-wide] + 1)
    return list(range(low, high + 1, 2))
