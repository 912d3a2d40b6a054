"""The CLOSED SPOTS of good TARGETS of good HEIGHTS, and the WORTHS as these are RAISED, level by level.

What takes a TARGET asks this again and again, so the longer loops here go without calls for each SPOT.
"""

from math import gcd

from hollowrise.deeds import SMALL, sum_by_own


def sunk(heights, target, spot):
    """How much a SPOT stands beneath its height in the FIELD OF A TARGET: above 0 where it is CLOSED, 0 where OPEN."""
    x, y, top = target
    a, b = spot
    return top - heights[b][a] - abs(a - x) - abs(b - y)


def stands(heights, target):
    """True of a TARGET that stands on the FIELD: no SPOT is CLOSED for it."""
    x, y, top = target
    return heights[y][x] == top


def spans_of(heights, target):
    """(X, SOUTH, NORTH) of each column with CLOSED SPOTS, rising: these are its Ys from SOUTH on, NORTH being beyond.

    One step nearer to the TARGET a height is no more than one greater, so what is CLOSED stays so on the way there: in
    each column the CLOSED SPOTS are in one piece, and there are some just where the one in line with the TARGET is one.
    """
    x, y, top = target
    row = heights[y]
    spans = []
    if row[x] == top:
        return spans
    # No SPOT of the RIM is CLOSED, so no way leads beyond it.
    column = x
    while row[column - 1] + x - column + 1 < top:
        column -= 1
    left = top - abs(column - x)
    while row[column] < left:
        south = y - 1
        while heights[south][column] + y - south < left:
            south -= 1
        north = y + 1
        while heights[north][column] + north - y < left:
            north += 1
        spans.append((column, south + 1, north))
        column += 1
        left = top - abs(column - x)
    return spans


def cone_of(heights, target):
    """The CLOSED SPOTS, rising."""
    return tuple([(x, y) for x, south, north in spans_of(heights, target) for y in range(south, north)])


def lists_of_target(heights, target):
    """The HEIGHTS of the FIELD OF A TARGET, as lists."""
    x, y, top = target
    rows = [list(row) for row in heights]
    for a, b in cone_of(heights, target):
        rows[b][a] = top - abs(a - x) - abs(b - y)
    return rows


def heights_of_target(heights, target):
    """The HEIGHTS of the FIELD OF A TARGET."""
    return tuple([tuple(row) for row in lists_of_target(heights, target)])


def levels_to(heights, target):
    """All (HEIGHT, X, Y) to which CLOSED SPOTS are RAISED, rising: each one's NEIGHBOURS stand one beneath it then."""
    x, y, top = target
    found = []
    for a, b in cone_of(heights, target):
        last = top - abs(a - x) - abs(b - y)
        for height in range(heights[b][a] + 2, last + 1, 2):
            found.append((height, a, b))
    return sorted(found)


def worths_risen(worths, levels, rule):
    """(The WORTHS behind all levels, as lists, a list of what each level came to); None where one comes to 0."""
    a, b = rule
    lines = [list(line) for line in worths]
    told = []
    for _, x, y in levels:
        line = lines[y]
        west, west_below = line[x - 1]
        east, east_below = line[x + 1]
        south, south_below = lines[y - 1][x]
        north, north_below = lines[y + 1][x]
        own, own_below = line[x]
        if west_below + south_below + north_below + east_below > SMALL:
            worth = sum_by_own((line[x - 1], lines[y - 1][x], lines[y + 1][x], line[x + 1]), line[x], rule)
        else:
            # As sum_by_own, once more.
            level = west_below * east_below
            upright = south_below * north_below
            above = (a * west * east * upright + b * south * north * level) * own_below
            below = level * upright * own
            shared = gcd(above, below) if below > 0 else -gcd(above, below)
            worth = (above // shared, below // shared)
        if worth[0] == 0:
            return None
        line[x] = worth
        told.append(worth)
    return (lines, told)


def many_risen(heights, target, levels):
    """How many PAIRINGS a TARGET has: by T3 what it comes to, by all levels, from ones by (1, 1)."""
    lines = [[1] * len(row) for row in heights]
    for _, x, y in levels:
        line = lines[y]
        # It is a number of PAIRINGS at each level, so no division leaves anything.
        line[x] = (line[x - 1] * line[x + 1] + lines[y - 1][x] * lines[y + 1][x]) // line[x]
    return lines[target[1]][target[0]]
