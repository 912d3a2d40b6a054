"""The way down from the FIELD OF A TARGET to the FIELD, on which PAIRINGS go over from one WEB to the next.

A PAIRING is a number here: a power of two for each TIE that can be in one of the WEBS.
"""

from hollowrise.cones import cone_of, heights_of_target, levels_to, worths_risen
from hollowrise.deeds import SMALL
from hollowrise.fields import around, with_at
from hollowrise.fractions import by, fraction, plus, so_many, times
from hollowrise.turns import at_ties, sides_at, ways_behind
from hollowrise.webs import tie_of


class Stage:
    """One SPOT that is LOWERED, and how PAIRINGS go over from the WEB of the heights ahead to that behind."""

    def __init__(self, ahead, behind, target, spot, bits):
        self.spot = spot
        self._behind = behind
        self._target = target
        self._bits = bits
        self._ties_at = number_of_ties(bits, at_ties(ahead, target, spot))
        self._sides = [(bits[tie], corners) for tie, corners in sides_at(spot)]
        self._ways_by = {}

    def ways(self, number):
        """The PAIRINGS to which one goes over: one, or two, of which the first by the SIDES to north and south."""
        corners = 0
        for bit, ends in self._sides:
            if number & bit != 0:
                corners = corners | ends
        if corners not in self._ways_by:
            ways = ways_behind(self._behind, self._target, self.spot, corners)
            self._ways_by[corners] = [number_of_ties(self._bits, ties) for ties in ways]
        rest = number ^ number & self._ties_at
        return [rest | ties for ties in self._ways_by[corners]]


class Parts:
    """The parts of COINS by which PAIRINGS go by the SIDES to north and south, by a GOOD RULE and WORTHS above 0."""

    def __init__(self, field, target, rule):
        heights, worths = field
        levels = levels_to(heights, target)
        _, told = worths_risen(worths, levels, rule)
        self._worths = worths
        self._rule = rule
        self._risen = {level: worth for level, worth in zip(levels, told)}

    def part_at(self, spot, height):
        """What A * west * east is of that and of B * north * south, where a SPOT stands at a height above these."""
        a, b = self._rule
        near = [self._risen.get((height - 1, x, y), self._worths[y][x]) for x, y in around(spot)]
        (west, west_below), (south, south_below), (north, north_below), (east, east_below) = near
        if west_below + south_below + north_below + east_below > SMALL:
            upright = so_many(times(near[0], near[3]), a)
            return by(upright, plus(upright, so_many(times(near[1], near[2]), b)))
        upright = a * west * east * south_below * north_below
        return fraction(upright, upright + b * south * north * west_below * east_below)


def stages_of(heights, target, bits):
    """A list of (stage, height) for each SPOT that is LOWERED from a height: the greatest first, else as SPOTS rise."""
    ahead = heights_of_target(heights, target)
    told = []
    for depth, x, y in sorted([(-height, x, y) for height, x, y in levels_to(heights, target)]):
        behind = with_at(ahead, (x, y), -depth - 2)
        told.append((Stage(ahead, behind, target, (x, y), bits), -depth))
        ahead = behind
    return told


def bits_for(heights, target):
    """A dict from all TIES that may lie at CLOSED SPOTS, rising, to powers of two."""
    found = {}
    for x, y in cone_of(heights, target):
        for a in (x - 1, x, x + 1):
            for b in (y - 1, y, y + 1):
                if (a, b) != (x, y):
                    found[tie_of((x, y), (a, b))] = True
    return {tie: 1 << number for number, tie in enumerate(sorted(found))}


def number_of_ties(bits, ties):
    """The number of a PAIRING, or of some TIES of one."""
    return sum([bits[tie] for tie in ties])


def ties_of_number(bits, number):
    """The PAIRING of a number."""
    return tuple([tie for tie, bit in bits.items() if number & bit != 0])
