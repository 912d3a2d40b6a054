"""TARGETS, WEBS and PAIRINGS told once more, by the words of the document, to hold the program against."""

import functools
import random
from fractions import Fraction
from math import ceil

from tests.plain import bounds_at, is_inner, places_of
from tests.samples import random_heights, rows_by, steep_field, worths_for

CALLED = {"sw": (0, 0), "se": (1, 0), "ne": (1, 1), "nw": (0, 1)}
ACROSS = [("sw", "ne"), ("se", "nw")]


def way_by_hand(one, other):
    return abs(one[0] - other[0]) + abs(one[1] - other[1])


def top_at(heights, x, y):
    """The greatest N of a TARGET at (X, Y)."""
    edge = [(a, b) for a, b in places_of(heights) if not is_inner(heights, a, b)]
    return min(heights[b][a] + abs(a - x) + abs(b - y) for a, b in edge)


def targets_of(heights):
    """All TARGETS of a FIELD, rising."""
    return [(x, y, n) for x, y in places_of(heights) for n in range(heights[y][x], top_at(heights, x, y) + 1, 2)]


def closed_by_hand(heights, target):
    x, y, n = target
    return [spot for spot in places_of(heights) if way_by_hand(spot, (x, y)) < n - heights[spot[1]][spot[0]]]


def open_by_hand(heights, target):
    x, y, n = target
    return [spot for spot in places_of(heights) if way_by_hand(spot, (x, y)) == n - heights[spot[1]][spot[0]]]


def target_heights(heights, target):
    x, y, n = target
    return rows_by(len(heights[0]), len(heights), lambda a, b: max(heights[b][a], n - way_by_hand((a, b), (x, y))))


def corners_of(heights):
    return [(x, y) for x in range(len(heights[0]) - 1) for y in range(len(heights) - 1)]


def called(corner, word):
    """The SPOT that is called so at a CORNER."""
    return (corner[0] + CALLED[word][0], corner[1] + CALLED[word][1])


def words_at(heights, corner):
    """How the KNOTS at a CORNER are called."""
    for pair in ACROSS:
        one, other = (called(corner, word) for word in pair)
        if heights[one[1]][one[0]] != heights[other[1]][other[0]]:
            return sorted(pair)
    return ["all"]


def knots_by_hand(heights, corner):
    return tuple(corner + (word,) for word in words_at(heights, corner))


def ends_by_hand(heights, one, other):
    """The ends of the TIE between two SPOTS, None where there is none."""
    meet = [corner for corner in corners_of(heights)
            if {one, other} <= {called(corner, word) for word in CALLED}]
    if way_by_hand(one, other) == 1 and len(meet) == 2:
        found = []
        for corner in meet:
            for word in words_at(heights, corner):
                if word == "all" or called(corner, word) in (one, other):
                    found.append(corner + (word,))
        return tuple(sorted(found))
    if way_by_hand(one, other) == 2 and len(meet) == 1:
        words = words_at(heights, meet[0])
        if len(words) == 2 and not {one, other} & {called(meet[0], word) for word in words}:
            return tuple(meet[0] + (word,) for word in words)
    return None


def ties_by_hand(heights):
    """A dict from all TIES of HEIGHTS to their ends."""
    ties = {}
    for one in places_of(heights):
        for other in places_of(heights):
            if one < other and way_by_hand(one, other) <= 2:
                ends = ends_by_hand(heights, one, other)
                if ends is not None:
                    ties[one, other] = ends
    return ties


@functools.lru_cache(maxsize=None)
def web_by_hand(heights, target):
    """A dict from the TIES of the WEB, rising, to their ends."""
    closed = set(closed_by_hand(heights, target))
    ties = ties_by_hand(heights)
    return {tie: ties[tie] for tie in sorted(ties) if closed & set(tie)}


def pairings_by_hand(heights, target):
    """All PAIRINGS, rising, by pairing the first KNOT that is left in each way."""
    web = web_by_hand(heights, target)
    at_knot = {}
    for tie, ends in web.items():
        for knot in ends:
            at_knot.setdefault(knot, []).append(tie)

    def going_on(left):
        if not left:
            return [()]
        found = []
        for tie in at_knot[min(left)]:
            if set(web[tie]) <= left:
                found += [rest + (tie,) for rest in going_on(left - set(web[tie]))]
        return found
    return sorted(tuple(sorted(pairing)) for pairing in going_on(frozenset(at_knot)))


def powers_by_hand(heights, target, pairing):
    """A dict from each SPOT to its POWER."""
    web = list(web_by_hand(heights, target))
    closed = closed_by_hand(heights, target)
    if not closed:
        return {spot: int(spot == target[:2]) for spot in places_of(heights)}
    powers = {}
    for spot in places_of(heights):
        at_it = [tie for tie in web if spot in tie]
        paired = [tie for tie in at_it if tie in pairing]
        powers[spot] = ceil(Fraction(len(at_it) - 2 * len(paired), 2)) - (spot in closed)
    return powers


def counts_by_hand(pairing):
    upright = sum(1 for one, other in pairing if way_by_hand(one, other) == 1 and one[0] == other[0])
    level = sum(1 for one, other in pairing if way_by_hand(one, other) == 1 and one[1] == other[1])
    return (Fraction(upright, 2), Fraction(level, 2))


def worth_of_pairing(field, target, pairing, rule=(1, 1)):
    heights, worths = field
    often_a, often_b = counts_by_hand(pairing)
    worth = Fraction(rule[0]) ** int(often_a) * Fraction(rule[1]) ** int(often_b)
    for (x, y), power in powers_by_hand(heights, target, pairing).items():
        worth *= Fraction(*worths[y][x]) ** power
    return worth


@functools.lru_cache(maxsize=None)
def told_of_all(heights, target):
    """For each PAIRING (its POWERS but 0, how often A, how often B)."""
    found = []
    for pairing in pairings_by_hand(heights, target):
        powers = powers_by_hand(heights, target, pairing)
        found.append(({spot: power for spot, power in powers.items() if power}, *map(int, counts_by_hand(pairing))))
    return found


def sum_by_hand(field, target, rule=(1, 1)):
    """The sum of the WORTHS of all PAIRINGS."""
    heights, worths = field
    total = Fraction(0)
    for powers, often_a, often_b in told_of_all(heights, target):
        worth = Fraction(rule[0] ** often_a * rule[1] ** often_b)
        for (x, y), power in powers.items():
            worth *= Fraction(*worths[y][x]) ** power
        total += worth
    return total


def pair(value):
    return (value.numerator, value.denominator)


def low_heights(wide, high, seed, most=30):
    """HEIGHTS of a RIM by chance, all within as low as can be: those with the farthest TARGETS."""
    heights = random_heights(wide, high, seed, most)
    return rows_by(wide, high, lambda x, y: bounds_at(heights, x, y)[0])


def low_steep(wide, high, edge):
    """The RIM at edge and edge + 1, all others as low as can be."""
    heights = steep_field(wide, high, edge)[0]
    return rows_by(wide, high, lambda x, y: bounds_at(heights, x, y)[0])


def some_heights():
    """HEIGHTS of small boards of all sorts: flat, by chance, and as low as can be."""
    found = [rows_by(wide, high, lambda x, y: (x + y) % 2) for wide, high in [(1, 1), (2, 5), (3, 3), (4, 5), (6, 6)]]
    for number, (wide, high) in enumerate([(1, 6), (3, 3), (3, 6), (4, 4), (5, 5), (6, 5), (7, 6), (5, 7), (6, 7)]):
        found.append(random_heights(wide, high, f"web {number}", 20))
        found.append(low_heights(wide, high, f"low {number}", 20))
    return found


def some_targets():
    """(HEIGHTS, TARGET) with PAIRINGS that are few enough to be gone through by hand."""
    found = []
    chance = random.Random("targets")
    for heights in some_heights():
        for rise, many in ((0, 2), (2, 5), (4, 6), (6, 1)):
            every = [(x, y, n) for x, y, n in targets_of(heights) if n - heights[y][x] == rise]
            found += [(heights, target) for target in sorted(chance.sample(every, min(many, len(every))))]
    return found


def small_worths(heights, seed, things=(1, -1, 2, -2, 3, 5)):
    """WORTHS that are whole, so that sums of them come to 0 often."""
    chance = random.Random(f"small {seed}")
    return rows_by(len(heights[0]), len(heights), lambda x, y: (chance.choice(things), 1))


def field_on(heights):
    return (heights, worths_for(len(heights[0]), len(heights)))
