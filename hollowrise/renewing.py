"""A HOLLOW RAISED: which PAIRINGS ahead and behind BELONG together."""

from hollowrise.cones import sunk
from hollowrise.deeds import UP, moved, need_movable
from hollowrise.errors import BadPaper, BadTarget
from hollowrise.fields import at, need_spot, sides, with_at
from hollowrise.kinds import is_whole, need_rule
from hollowrise.pairings import need_pairing_on, pairings_of
from hollowrise.targets import need_target
from hollowrise.turns import at_ties, corners_taken, turned, without

# How deep numbers stand in a GROUP: AHEAD or BEHIND, PAIRING, TIE, SPOT, number.
DEEP = 5


def at_hollow(field, target, spot):
    """The TIES AT a CLOSED HOLLOW, rising."""
    ahead, _ = _both_heights(field, target, spot)
    return at_ties(ahead, target, spot)


def at_raised(field, target, spot):
    """The TIES AT what a CLOSED HOLLOW is RAISED to, in the WEB behind, rising."""
    _, behind = _both_heights(field, target, spot)
    return at_ties(behind, target, spot)


def rest(field, target, spot, pairing, *, raised=False):
    """The REST of a PAIRING ahead, or of one behind."""
    heights = _heights_of(field, target, spot, raised)
    need_pairing_on(heights, target, pairing)
    return without(pairing, at_ties(heights, target, spot))


def taken(field, target, spot, pairing, *, raised=False):
    """The CORNERS TAKEN of a PAIRING ahead, or of one behind, rising."""
    heights = _heights_of(field, target, spot, raised)
    need_pairing_on(heights, target, pairing)
    return corners_taken(spot, pairing)


def gone_over(field, target, spot, pairing):
    """The PAIRINGS behind that BELONG to one ahead, rising."""
    ahead, behind = _both_heights(field, target, spot)
    need_pairing_on(ahead, target, pairing)
    return turned(ahead, behind, target, spot, pairing)


def come_from(field, target, spot, pairing):
    """The PAIRINGS ahead that BELONG to one behind, rising."""
    ahead, behind = _both_heights(field, target, spot)
    need_pairing_on(behind, target, pairing)
    return turned(behind, ahead, target, spot, pairing)


def groups(field, target, spot):
    """A list of all GROUPS (AHEAD, BEHIND), rising; TooGreat where there are more than 4096 PAIRINGS of either kind."""
    ahead, behind = _both_heights(field, target, spot)
    return _groups_of(ahead, behind, target, spot)


def check_groups(field, target, spot, thing, *, rule=(1, 1)):
    """None, or BadPaper(place) of anything that isn't a list or tuple of all GROUPS, rising."""
    ahead, behind = _both_heights(field, target, spot)
    need_rule(rule)
    every = {group: True for group in _groups_of(ahead, behind, target, spot)}
    moved(field, (spot,), UP, rule)
    if type(thing) is not list and type(thing) is not tuple:
        raise BadPaper(None)
    # All of one GROUP, and no fewer, have one sum: no WORTH is 0, and of one half of it there is just one PAIRING.
    last = ()
    for number, group in enumerate(thing):
        if not _is_nest(group, DEEP) or group not in every or group <= last:
            raise BadPaper(number)
        last = group
    if len(thing) < len(every):
        raise BadPaper(len(thing))


def _both_heights(field, target, spot):
    """The HEIGHTS ahead and behind of a CLOSED HOLLOW; or as all that asks for one is refused."""
    need_target(field, target)
    heights, _ = field
    need_spot(spot, sides(heights))
    need_movable(heights, spot, UP)
    if sunk(heights, target, spot) <= 0:
        raise BadTarget("this hollow is not closed for the target")
    return (heights, with_at(heights, spot, at(heights, spot) + 2))


def _heights_of(field, target, spot, raised):
    """The HEIGHTS ahead, or those behind."""
    ahead, behind = _both_heights(field, target, spot)
    if raised:
        return behind
    return ahead


def _groups_of(ahead, behind, target, spot):
    """As groups, of good HEIGHTS ahead and behind."""
    told = {}
    for number, heights in ((0, ahead), (1, behind)):
        ties = at_ties(heights, target, spot)
        for pairing in pairings_of(heights, target):
            told.setdefault(without(pairing, ties), ([], []))[number].append(pairing)
    return sorted([(tuple(found[0]), tuple(found[1])) for found in told.values()])


def _is_nest(thing, deep):
    """True of tuples within tuples, so deep, of whole numbers, of anything."""
    if deep == 0:
        return is_whole(thing)
    if type(thing) is not tuple:
        return False
    for part in thing:
        if not _is_nest(part, deep - 1):
            return False
    return True
