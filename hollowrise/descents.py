"""The way down from the FIELD OF A TARGET to the FIELD, on which PAIRINGS go over from one WEB to the next.

A PAIRING is a number here: a power of two for each TIE that can be in one of the WEBS.
"""

from hollowrise.fields import around, at, with_at
from hollowrise.fractions import by, plus, so_many, times
from hollowrise.reach import levels_behind
from hollowrise.targets import cone_of, heights_of_target, rising_to
from hollowrise.turns import at_ties, with_rest, without
from hollowrise.webs import tie_of


class Stage:
    """One SPOT that is LOWERED, and how PAIRINGS go over from the WEB of the heights ahead to that behind."""

    def __init__(self, heights, target, spot, part, bits):
        self.spot = spot
        # The part of the COINS by which it goes by the SIDES to north and south, where there are two ways.
        self.part = part
        self._behind = with_at(heights, spot, at(heights, spot) - 2)
        self._target = target
        self._bits = bits
        self._ties_at = at_ties(heights, target, spot)
        self._ties_near = [tie for tie in _ties_between(_block(spot)) if tie in bits]
        self._near = number_of_ties(bits, self._ties_near)
        self._ways_by = {}

    def ways(self, number):
        """The PAIRINGS to which one goes over: one, or two, of which the first by the SIDES to north and south."""
        near = number & self._near
        if near not in self._ways_by:
            self._ways_by[near] = self._ways_near(near)
        return [number ^ near ^ other for other in self._ways_by[near]]

    def _ways_near(self, near):
        """As ways, of the TIES near the SPOT alone."""
        ties = tuple([tie for tie in self._ties_near if near & self._bits[tie] != 0])
        found = with_rest(self._behind, self._target, self.spot, without(ties, self._ties_at))
        upright = tie_of(self.spot, around(self.spot)[2])
        first = [number_of_ties(self._bits, other) for other in found if upright in other]
        return first + [number_of_ties(self._bits, other) for other in found if upright not in other]


def stages_of(field, target, bits, rule):
    """A list of the stages, one for each SPOT that is LOWERED, by a GOOD RULE and WORTHS above 0."""
    levels = levels_behind(field, rising_to(field[0], target), rule)
    heights = heights_of_target(field[0], target)
    told = []
    for spot, height in _order(field[0], target):
        told.append(Stage(heights, target, spot, _part_upright(levels, spot, height, rule), bits))
        heights = with_at(heights, spot, height - 2)
    return told


def bits_for(heights, target):
    """A dict from all TIES that may lie at CLOSED SPOTS, rising, to powers of two."""
    spots = cone_of(heights, target)
    found = {tie_of(spot, other): True for spot in spots for other in _block(spot) if other != spot}
    return {tie: 1 << number for number, tie in enumerate(sorted(found))}


def number_of_ties(bits, ties):
    """The number of a PAIRING, or of some TIES of one."""
    return sum([bits[tie] for tie in ties])


def ties_of_number(bits, number):
    """The PAIRING of a number."""
    return tuple([tie for tie, bit in bits.items() if number & bit != 0])


def _block(spot):
    """A SPOT and the eight places round it."""
    x, y = spot
    return [(a, b) for a in (x - 1, x, x + 1) for b in (y - 1, y, y + 1)]


def _ties_between(spots):
    """All pairs of places, rising, between which a TIE might lie."""
    steps = ((0, 1), (1, -1), (1, 0), (1, 1))
    return [((x, y), (x + a, y + b)) for x, y in spots for a, b in steps if (x + a, y + b) in spots]


def _order(heights, target):
    """All (SPOT, height from which it is LOWERED): the greatest height first, of these the SPOTS as they rise."""
    last = heights_of_target(heights, target)
    told = []
    for spot in cone_of(heights, target):
        told = told + [(-height, spot) for height in range(at(last, spot), at(heights, spot), -2)]
    return [(spot, -depth) for depth, spot in sorted(told)]


def _part_upright(levels, spot, height, rule):
    """What A * west * east is of that and of B * north * south, where a SPOT stands at a height above these."""
    a, b = rule
    west, south, north, east = [levels[(x, y, height - 1)] for x, y in around(spot)]
    upright = so_many(times(west, east), a)
    return by(upright, plus(upright, so_many(times(north, south), b)))
