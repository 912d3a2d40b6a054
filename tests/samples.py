"""FIELDS, wrong things and plain re-tellings of the document that the tests share."""

import random
from fractions import Fraction
from math import gcd

SIXTY = 10 ** 59 + 7

# One of each kind of thing that is no number, no tuple of numbers, and no FIELD.
ODD_THINGS = [
    None, True, False, 0, 1, -1, 10 ** 999, 0.5, 1.0, float("nan"), 1j, "", "text", "ab", b"", b"ab",
    (), [], {}, set(), frozenset(), range(2), object(), int, tuple, len, Ellipsis, ((),), ((), ()), [[], []],
    (None, None), ("a", "b"), [1, 2], {1: 2, 3: 4}, (1,), (1, 2, 3), (1.0, 2.0), ValueError("x"),
]

SIZES = [(wide, high) for wide in range(1, 12) for high in range(1, 12)]


def rows_by(wide, high, told):
    """Rows of what is told for each (X, Y)."""
    return tuple(tuple(told(x, y) for x in range(wide)) for y in range(high))


def worths_for(wide, high):
    """WORTHS, all unlike, of either sign, whole, broken, and of sixty figures."""
    def worth(x, y):
        number = 11 * y + x
        value = Fraction((-1) ** number * (2 * number + 1), (1, 2 ** number, SIXTY + number)[number % 3])
        return (value.numerator, value.denominator)
    return rows_by(wide, high, worth)


def random_heights(wide, high, seed, most=35):
    """HEIGHTS with the RIM from -most to most, by chance and always the same."""
    chance = random.Random(f"{wide} {high} {seed}")
    rows = [[(x + y) % 2 for x in range(wide)] for y in range(high)]
    for _ in range(6 * wide * high):
        x, y = chance.randrange(wide), chance.randrange(high)
        near = {rows[b][a] for a, b in near_places(x, y) if 0 <= a < wide and 0 <= b < high}
        if len(near) == 1 and near:
            step = near.pop() - rows[y][x]
            rows[y][x] += 2 * step
    rows = tuple(tuple(row) for row in rows)
    edge = [rows[y][x] for y in range(high) for x in range(wide) if lacks_one(x, y, wide, high)]
    lift = 2 * chance.randrange(-((most + min(edge)) // 2), (most - max(edge)) // 2 + 1)
    return tuple(tuple(height + lift for height in row) for row in rows)


def random_field(wide, high, seed, most=35):
    return (random_heights(wide, high, seed, most), worths_for(wide, high))


def flat_field(wide, high):
    return (rows_by(wide, high, lambda x, y: (x + y) % 2), worths_for(wide, high))


def steep_field(wide, high, edge):
    """The RIM at edge and edge + 1, all others as high as can be."""
    def rim_height(x, y):
        return edge + (x + y + edge) % 2

    places = [(a, b) for a in range(wide) for b in range(high) if lacks_one(a, b, wide, high)]

    def height(x, y):
        return min(rim_height(a, b) + abs(x - a) + abs(y - b) for a, b in places)
    return (rows_by(wide, high, height), worths_for(wide, high))


def near_places(x, y):
    return [(x - 1, y), (x, y - 1), (x, y + 1), (x + 1, y)]


def lacks_one(x, y, wide, high):
    return any(not (0 <= a < wide and 0 <= b < high) for a, b in near_places(x, y))


def whole(thing):
    return type(thing) is int


def worth_like(thing):
    return (type(thing) is tuple and len(thing) == 2 and all(map(whole, thing))
            and thing[1] > 0 and thing[0] != 0 and gcd(*thing) == 1)


def like_rows(thing, wide, high, told):
    return (type(thing) is tuple and len(thing) == high
            and all(type(row) is tuple and len(row) == wide and all(map(told, row)) for row in thing))


def place_of(thing):
    """The place of the BadField of anything, "" of a FIELD; told by the words of point 3, one by one."""
    if not type(thing) is tuple or len(thing) != 2:
        return None
    heights, worths = thing
    if not type(heights) is tuple or not heights or not type(heights[0]) is tuple:
        return "heights"
    wide, high = len(heights[0]), len(heights)
    if not (1 <= wide <= 11 and 1 <= high <= 11 and like_rows(heights, wide, high, whole)):
        return "heights"
    places = [(x, y) for y in range(high) for x in range(wide)]
    if any(lacks_one(x, y, wide, high) and not -35 <= heights[y][x] <= 35 for x, y in places):
        return "heights"
    for x, y in places:
        if (heights[y][x] % 2 == 0) != ((x + y) % 2 == 0):
            return "steps"
        for a, b in near_places(x, y):
            if 0 <= a < wide and 0 <= b < high and abs(heights[b][a] - heights[y][x]) != 1:
                return "steps"
    return "" if like_rows(worths, wide, high, worth_like) else "worths"


def with_thing(rows, x, y, thing):
    """Rows, of tuples, with another thing at (X, Y)."""
    return tuple(tuple(thing if (x, y) == (a, b) else kept for a, kept in enumerate(row))
                 for b, row in enumerate(rows))


class Claim(tuple):
    """What says of itself that it is a tuple like any other."""
    __class__ = tuple


class ClaimedNumber(int):
    """What says of itself that it is a whole number like any other."""
    __class__ = int


class ClaimedText(str):
    """What says of itself that it is a text like any other."""
    __class__ = str


class Anything:
    """What says that it is whatever it is held against."""
    __class__ = tuple

    def __init__(self, *parts):
        self.parts = parts

    def __eq__(self, other):
        return True

    def __hash__(self):
        return hash(self.parts)

    def __len__(self):
        return len(self.parts)

    def __iter__(self):
        return iter(self.parts)

    def __getitem__(self, at):
        return self.parts[at]

    def __lt__(self, other):
        return False

    __le__ = __gt__ = __ge__ = __lt__


def claims(thing):
    """Things that claim to be this one, of tuples within tuples of whole numbers and texts, and aren't."""
    if type(thing) is str:
        return [ClaimedText(thing), thing.encode()]
    if type(thing) is int:
        return [ClaimedNumber(thing), float(thing)] + ([bool(thing)] if thing in (0, 1) else [])
    found = [Claim(thing), Anything(*thing), list(thing)]
    for at, part in enumerate(thing):
        found += [thing[:at] + (other,) + thing[at + 1:] for other in claims(part)]
    return found
