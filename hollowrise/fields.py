"""BOARDS, SPOTS and FIELDS: what they are, what is asked of them, how they are turned."""

from math import gcd

from hollowrise.errors import BadField, BadFraction, BadSpot
from hollowrise.fractions import is_fraction
from hollowrise.kinds import is_tuple_of

MOST_SIDE = 11
MOST_RIM = 35


def is_field(thing):
    """True of a FIELD, of anything."""
    try:
        need_field(thing)
    except BadField:
        return False
    return True


def need_field(thing):
    """None, or BadField(place) of anything that is no FIELD."""
    if not is_tuple_of(thing, 2):
        raise BadField(None)
    heights, worths = thing
    place = wrong_with_heights(heights)
    if place is not None:
        raise BadField(place)
    if not are_worth_rows(worths, sides(heights)):
        raise BadField("worths")


def board(field):
    """(WIDE, HIGH) of a FIELD."""
    need_field(field)
    return sides(field[0])


def spots(field):
    """All SPOTS, rising."""
    return spots_of(board(field))


def rim(field):
    """The SPOTS of the RIM, rising."""
    return rim_of(board(field))


def inner(field):
    """The INNER SPOTS, rising."""
    return inner_of(board(field))


def neighbours(field, spot):
    """The NEIGHBOURS of a SPOT, rising."""
    size = board(field)
    need_spot(spot, size)
    return neighbours_of(spot, size)


def height_at(field, spot):
    """The height at which a SPOT stands."""
    need_spot(spot, board(field))
    heights, _ = field
    return at(heights, spot)


def worth_of(field, spot):
    """The WORTH of a SPOT."""
    need_spot(spot, board(field))
    _, worths = field
    return at(worths, spot)


def way(spot, other):
    """How far two SPOTS are apart in X and in Y, together."""
    return abs(spot[0] - other[0]) + abs(spot[1] - other[1])


def with_worth(field, spot, fraction):
    """The FIELD with another WORTH at a SPOT."""
    need_spot(spot, board(field))
    if not is_worth(fraction):
        raise BadFraction("a worth is a fraction other than nought")
    heights, worths = field
    return (heights, with_at(worths, spot, fraction))


def upside_down(field):
    """The FIELD with its heights' opposites."""
    need_field(field)
    heights, worths = field
    return (tuple([tuple([-height for height in row]) for row in heights]), worths)


def mirrored(field):
    """The FIELD with its rows turned about; BadField("high") where one would be too high."""
    size = board(field)
    heights, worths = field
    # Where WIDE is odd each SPOT goes over to one of the same evenness.
    rise = 1 - size[0] % 2
    if rise > 0 and MOST_RIM in [at(heights, spot) for spot in rim_of(size)]:
        raise BadField("high")
    heights_about = tuple([tuple([height + rise for height in row[::-1]]) for row in heights])
    return (heights_about, tuple([row[::-1] for row in worths]))


def turned(field):
    """The FIELD with its rows as columns."""
    need_field(field)
    heights, worths = field
    return (columns(heights), columns(worths))


def sides(rows):
    """(WIDE, HIGH) of good rows."""
    return (len(rows[0]), len(rows))


def spots_of(size):
    """All SPOTS of a BOARD of such a size, rising."""
    wide, high = size
    return tuple([(x, y) for x in range(wide) for y in range(high)])


def rim_of(size):
    """The SPOTS of the RIM of a BOARD of such a size, rising."""
    wide, high = size
    if wide < 3 or high < 3:
        return spots_of(size)
    west = [(0, y) for y in range(high)]
    east = [(wide - 1, y) for y in range(high)]
    between = [(x, y) for x in range(1, wide - 1) for y in (0, high - 1)]
    return tuple(west + between + east)


def inner_of(size):
    """The INNER SPOTS of a BOARD of such a size, rising."""
    wide, high = size
    return tuple([(x, y) for x in range(1, wide - 1) for y in range(1, high - 1)])


def around(spot):
    """The four places beside a SPOT, whether they are there or not, rising: west, south, north, east."""
    x, y = spot
    return ((x - 1, y), (x, y - 1), (x, y + 1), (x + 1, y))


def neighbours_of(spot, size):
    """The NEIGHBOURS of a good SPOT on a BOARD of such a size, rising."""
    return tuple([near for near in around(spot) if is_within(near, size)])


def is_within(place, size):
    """True where a place (X, Y) lies on a BOARD of such a size."""
    x, y = place
    wide, high = size
    return 0 <= x < wide and 0 <= y < high


def is_spot(thing, size):
    """True of a SPOT of a BOARD of such a size, of anything."""
    if not is_tuple_of(thing, 2):
        return False
    x, y = thing
    wide, high = size
    return type(x) is int and type(y) is int and 0 <= x < wide and 0 <= y < high


def need_spot(thing, size):
    """None, or BadSpot of anything that is no SPOT of a BOARD of such a size."""
    if not is_spot(thing, size):
        raise BadSpot("the field has no such spot")


def at(rows, spot):
    """What stands in rows at a SPOT."""
    x, y = spot
    return rows[y][x]


def with_at(rows, spot, thing):
    """The rows with another thing at a SPOT."""
    x, y = spot
    row = rows[y][:x] + (thing,) + rows[y][x + 1:]
    return rows[:y] + (row,) + rows[y + 1:]


def columns(rows):
    """The columns of good rows, as rows."""
    wide, high = sides(rows)
    return tuple([tuple([rows[y][x] for y in range(high)]) for x in range(wide)])


def is_side_long(thing):
    """True of a tuple of as many things as a side of a BOARD may have SPOTS."""
    return type(thing) is tuple and 1 <= len(thing) <= MOST_SIDE


def wrong_with_heights(thing):
    """None of HEIGHTS, of anything; else the place that is due, "heights" or "steps"."""
    # Each FIELD that is handed in comes by here, so this calls nothing of its own for each SPOT.
    if not is_side_long(thing) or not is_side_long(thing[0]):
        return "heights"
    first = thing[0][0]
    # Where all NEIGHBOURS are one apart the evenness of one SPOT is that of all.
    if type(first) is not int or first % 2 == 1 or not are_steps_beside(thing[0]):
        return _wrong_or_steps(thing)
    wide = len(thing[0])
    south = thing[0]
    for row in thing[1:]:
        if type(row) is not tuple or len(row) != wide:
            return "heights"
        # The row's first SPOT has no NEIGHBOUR to the west: it is held against the one to the south twice.
        west = south[0]
        for height, below in zip(row, south):
            if type(height) is not int:
                return "heights"
            # Of whole numbers just where both are one apart.
            if (height - west) * (height - below) not in (1, -1):
                return _wrong_or_steps(thing)
            west = height
        south = row
    # No height is farther from the first one than the WAY, so most RIMS needn't be gone round.
    if abs(first) + wide + len(thing) - 2 <= MOST_RIM or is_rim_low(thing):
        return None
    return "heights"


def _wrong_or_steps(thing):
    """The place of what isn't stepped as HEIGHTS are: "steps" where all else is right."""
    if are_height_rows(thing):
        return "steps"
    return "heights"


def are_steps_beside(row):
    """True of a row of whole numbers, the first of which is one, each one apart from the next."""
    west = row[0] - 1
    for height in row:
        if type(height) is not int or height - west not in (1, -1):
            return False
        west = height
    return True


def is_rim_low(rows):
    """True of rows of whole numbers that are within the bounds of the RIM where they are on it."""
    edge = list(rows[0] + rows[-1]) + [row[0] for row in rows] + [row[-1] for row in rows]
    return -MOST_RIM <= min(edge) and max(edge) <= MOST_RIM


def are_height_rows(thing):
    """True of a tuple of rows like the first, of whole numbers, within bounds on the RIM, whatever their steps."""
    wide = len(thing[0])
    for row in thing:
        if type(row) is not tuple or len(row) != wide:
            return False
        for height in row:
            if type(height) is not int:
                return False
    return is_rim_low(thing)


def is_worth(thing):
    """True of a FRACTION but 0, of anything."""
    return is_fraction(thing) and thing[0] != 0


def are_worth_rows(thing, size):
    """True of WORTHS of a BOARD of such a size, of anything."""
    wide, high = size
    if not is_tuple_of(thing, high):
        return False
    for row in thing:
        if type(row) is not tuple or len(row) != wide:
            return False
        for worth in row:
            # As is_worth, once more: to call that for each WORTH takes longer than all else of a FIELD.
            if type(worth) is not tuple or len(worth) != 2:
                return False
            above, below = worth
            if type(above) is not int or type(below) is not int:
                return False
            if below == 1:
                if above == 0:
                    return False
            elif below < 1 or gcd(above, below) != 1:
                return False
    return True
