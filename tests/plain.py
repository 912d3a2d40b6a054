"""HEIGHTS, DEEDS and ROWS told once more, otherwise than the program does it, to hold the program against."""

import itertools
import random
from fractions import Fraction

from hollowrise.errors import NoHollow, NoPeak, Nought
from tests.samples import lacks_one, near_places, random_heights, rows_by, with_thing

RULES = [(1, 1), (1, -1), (-1, 1), (2, 3), (-9, 9), (9, -4), (-1, -1)]
GOOD_RULES = [(1, 1), (2, 3), (9, 1)]
ONE = (1, 1)
FLAT_5 = rows_by(5, 5, lambda x, y: (x + y) % 2)


def outcome(function, *places, **names):
    """("told", what it tells), or the class and the fields of what it is refused with."""
    try:
        return ("told", function(*places, **names))
    except (ValueError, RuntimeError, LookupError) as error:
        return (type(error).__name__, vars(error))


def places_of(rows):
    """All (X, Y), rising."""
    return [(x, y) for x in range(len(rows[0])) for y in range(len(rows))]


def is_inner(rows, x, y):
    return not lacks_one(x, y, len(rows[0]), len(rows))


def can_go(heights, x, y, step):
    return is_inner(heights, x, y) and all(heights[b][a] - heights[y][x] == step for a, b in near_places(x, y))


def deeds_at(heights):
    """All DEEDS that HEIGHTS let be done, rising."""
    return [(word, x, y) for word, step in (("down", -1), ("up", 1)) for x, y in places_of(heights)
            if can_go(heights, x, y, step)]


def heights_done(heights, deed):
    word, x, y = deed
    return with_thing(heights, x, y, heights[y][x] + (2 if word == "up" else -2))


def deed_done(field, deed, rule=(1, 1)):
    """The FIELD behind a DEED, with Python's fractions; or the refusal."""
    heights, worths = field
    word, x, y = deed
    if not can_go(heights, x, y, 1 if word == "up" else -1):
        raise (NoHollow if word == "up" else NoPeak)((x, y))
    west, south, north, east = (Fraction(*worths[b][a]) for a, b in near_places(x, y))
    value = (rule[0] * west * east + rule[1] * north * south) / Fraction(*worths[y][x])
    if value == 0:
        raise Nought((x, y))
    return (heights_done(heights, deed), with_thing(worths, x, y, (value.numerator, value.denominator)))


def row_done(field, row, rule=(1, 1)):
    for deed in row:
        field = deed_done(field, deed, rule)
    return field


def row_reached(field, row, rule=(1, 1)):
    """How many DEEDS of a ROW can be done."""
    for number, deed in enumerate(row):
        try:
            field = deed_done(field, deed, rule)
        except RuntimeError:
            return number
    return len(row)


def told_back(row):
    return tuple(({"up": "down", "down": "up"}[word], x, y) for word, x, y in reversed(row))


def bounds_at(heights, x, y):
    """(LOWEST, HIGHEST) at (X, Y), by the words of point 4."""
    edge = [(a, b) for a, b in places_of(heights) if not is_inner(heights, a, b)]
    return (max(heights[b][a] - abs(a - x) - abs(b - y) for a, b in edge),
            min(heights[b][a] + abs(a - x) + abs(b - y) for a, b in edge))


def are_stepped(rows):
    """True where all NEIGHBOURS are one apart."""
    return all(abs(rows[y][x] - rows[b][a]) == 1 for x, y in places_of(rows) for a, b in near_places(x, y)
               if 0 <= a < len(rows[0]) and 0 <= b < len(rows))


def all_by_hand(heights):
    """All HEIGHTS of a BOARD and RIM, out of all rows of numbers there; of small boards."""
    wide, high = len(heights[0]), len(heights)
    free = [(x, y) for y in range(high) for x in range(wide) if is_inner(heights, x, y)]
    found = []
    ranges = [range(bounds_at(heights, x, y)[0] - 2, bounds_at(heights, x, y)[1] + 3) for x, y in free]
    for numbers in itertools.product(*ranges):
        put = dict(zip(free, numbers))
        rows = rows_by(wide, high, lambda x, y: put.get((x, y), heights[y][x]))
        if are_stepped(rows):
            found.append(rows)
    return sorted(found)


def ways_apart(heights):
    """By how many DEEDS each of the HEIGHTS of one RIM is come to, by going everywhere."""
    apart = {heights: 0}
    layer = [heights]
    while layer:
        ahead = []
        for one in layer:
            for deed in deeds_at(one):
                other = heights_done(one, deed)
                if other not in apart:
                    apart[other] = apart[one] + 1
                    ahead.append(other)
        layer = ahead
    return apart


def fewest_rows(one, other):
    """All FEWEST ROWS, rising, out of all ROWS."""
    apart = ways_apart(other)

    def rows_from(heights):
        if heights == other:
            return [()]
        return [(deed,) + row for deed in deeds_at(heights) if apart[heights_done(heights, deed)] < apart[heights]
                for row in rows_from(heights_done(heights, deed))]
    return sorted(rows_from(one))


def first_by_hand(one, other):
    """The FIRST ROW: of the DEEDS that come nearer, spot by spot, always the first."""
    row = []
    while one != other:
        deed = next((word, x, y) for word, x, y in deeds_at(one)
                    if (one[y][x] < other[y][x] if word == "up" else one[y][x] > other[y][x]))
        row.append(deed)
        one = heights_done(one, deed)
    return tuple(row)


def nearest_by_hand(heights, x, y, height):
    """The HEIGHTS of point 14."""
    def there(a, b):
        if heights[y][x] > height:
            return min(heights[b][a], height + abs(a - x) + abs(b - y))
        return max(heights[b][a], height - abs(a - x) - abs(b - y))
    return rows_by(len(heights[0]), len(heights), there)


def worth_by_hand(field, x, y, height, rule=(1, 1)):
    """The WORTH AT (X, Y, HEIGHT), or the refusal, of point 14."""
    row = first_by_hand(field[0], nearest_by_hand(field[0], x, y, height))
    return row_done(field, row, rule)[1][y][x]


def wander(heights, many, seed):
    """A ROW of DEEDS that HEIGHTS let be done, by chance and always the same."""
    chance = random.Random(f"{heights} {seed}")
    row = []
    for _ in range(many):
        deeds = deeds_at(heights)
        if not deeds:
            break
        deed = chance.choice(deeds)
        row.append(deed)
        heights = heights_done(heights, deed)
    return tuple(row)


def heights_behind(heights, row):
    for deed in row:
        heights = heights_done(heights, deed)
    return heights


def chance_field(wide, high, seed, things=((1, 1), (-1, 1), (2, 1), (-2, 1), (1, 2))):
    """A FIELD with WORTHS of a few kinds, so that many DEEDS would come to 0."""
    chance = random.Random(f"chance {wide} {high} {seed}")
    worths = rows_by(wide, high, lambda x, y: chance.choice(things))
    return (random_heights(wide, high, seed), worths)


def strips(wide, many):
    """HEIGHTS with so many strips of WIDE - 1 states each, apart from one another: a BOARD of WIDE by 2 * many + 1."""
    def height(x, y):
        if y % 2 == 0:
            return x
        return x + 1 if x == 0 else x - 1
    return rows_by(wide, 2 * many + 1, height)


def squares_rim(size):
    """HEIGHTS whose RIM is that of tables of a size: as many as there are rows of 1, 0 and -1 with signs by turns."""
    def rim_height(x, y):
        if y == 0 or x == 0:
            return x + y
        return size - y if x == size else size - x

    edge = [(x, y) for x in range(size + 1) for y in range(size + 1) if lacks_one(x, y, size + 1, size + 1)]
    return rows_by(size + 1, size + 1,
                   lambda x, y: max(rim_height(a, b) - abs(a - x) - abs(b - y) for a, b in edge))
