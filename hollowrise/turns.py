"""What of PAIRINGS changes where a HOLLOW is RAISED, or a PEAK LOWERED: the TIES AT it, all others stay."""

from hollowrise.fields import around
from hollowrise.targets import sunk
from hollowrise.webs import ends_of, is_leg, tie_of


def at_ties(heights, target, spot):
    """The TIES AT a HOLLOW or a PEAK, of the WEB that these HEIGHTS tell, rising."""
    west, south, north, east = around(spot)
    sides = [tie_of(spot, near) for near in around(spot)]
    beside = [(west, south), (west, north), (south, east), (north, east)]
    legs = [tie_of(one, other) for one, other in beside if is_leg(heights, one, other)]
    return tuple(sorted([tie for tie in sides + legs if _lies_at_closed(heights, target, tie)]))


def _lies_at_closed(heights, target, tie):
    """True of a TIE of the WEB."""
    one, other = tie
    return sunk(heights, target, one) > 0 or sunk(heights, target, other) > 0


def without(pairing, ties):
    """The TIES of a PAIRING that aren't among these."""
    return tuple([tie for tie in pairing if tie not in ties])


def corners_taken(heights, spot, pairing):
    """The CORNERS TAKEN at a SPOT, rising."""
    corners = {}
    for near in around(spot):
        tie = tie_of(spot, near)
        if tie in pairing:
            for x, y, _ in ends_of(heights, tie):
                corners[(x, y)] = True
    return tuple(sorted(corners))


def with_rest(heights, target, spot, rest):
    """All PAIRINGS, by these HEIGHTS, that have this REST at a HOLLOW or a PEAK, rising.

    Of the REST just the TIES near the SPOT matter, so it may be told without others: these lack in each PAIRING then.
    """
    ties = {tie: ends_of(heights, tie) for tie in at_ties(heights, target, spot)}
    left = {}
    for tie in ties:
        for knot in ties[tie]:
            left[knot] = True
    for tie in rest:
        if is_near(spot, tie[0]) and is_near(spot, tie[1]):
            for knot in ends_of(heights, tie):
                left.pop(knot, None)
    return sorted([tuple(sorted(rest + chosen)) for chosen in _chosen(ties, sorted(left))])


def is_near(spot, other):
    """True of two SPOTS that are at most one apart in X, and in Y."""
    return abs(spot[0] - other[0]) <= 1 and abs(spot[1] - other[1]) <= 1


def _chosen(ties, left):
    """All choices of TIES by which just those KNOTS that are left are paired, each once."""
    if len(left) == 0:
        return [()]
    found = []
    for tie in ties:
        one, other = ties[tie]
        if left[0] in (one, other) and one in left and other in left:
            behind = [knot for knot in left if knot not in (one, other)]
            found = found + [(tie,) + rest for rest in _chosen(ties, behind)]
    return found
