"""FLAT FIELDS, and how many FLOORS of small stones there are by their LIFTS and their STANDING stones."""

from hollowrise.errors import BadField, BadFraction, BadOrder, BadTarget
from hollowrise.fields import MOST_SIDE, need_field, need_spot, sides
from hollowrise.figures import short_power
from hollowrise.fractions import is_fraction, power
from hollowrise.heights import rows_by, span_at
from hollowrise.kinds import is_whole, need_rule
from hollowrise.targets import need_target_on

MOST_ORDER = 8
MOST_N = 9
MOST_BASE = 10


def flat(wide, high):
    """A FLAT FIELD of ones; BadOrder."""
    need_number(wide, 1, MOST_SIDE)
    need_number(high, 1, MOST_SIDE)
    return (_flat_heights((wide, high)), rows_by((wide, high), lambda spot: (1, 1)))


def is_flat(field):
    """True of a FIELD whose heights are 0 and 1 alone."""
    need_field(field)
    return is_flat_rows(field[0])


def flat_worth(n, *, rule=(1, 1)):
    """The sum of T3 of ones for a TARGET (X, Y, N) of a FLAT FIELD; BadOrder."""
    need_number(n, 0, MOST_N)
    need_rule(rule)
    a, b = rule
    worth, _ = power((a + b, 1), n * (n - 1) // 2)
    return worth


def flat_target(field, spot):
    """The greatest TARGET at a SPOT of a FLAT FIELD."""
    need_flat(field)
    heights, _ = field
    need_spot(spot, sides(heights))
    _, top = span_at(heights, spot)
    return spot + (top,)


def order_of(field, target):
    """The ORDER of the DIAMOND of a TARGET of a FLAT FIELD; BadTarget, also of N below 2."""
    need_flat(field)
    need_target_on(field[0], target)
    if target[2] < 2:
        raise BadTarget("this target has no diamond")
    return target[2] - 1


def leaning(field, base, q):
    """The FLAT FIELD of T9, of the BOARD of a FIELD; BadOrder, BadFraction, TooGreat."""
    need_field(field)
    need_number(base, 0, MOST_BASE)
    if not is_fraction(q) or q[0] <= 0:
        raise BadFraction("this is no fraction above 0")
    wide, high = sides(field[0])
    rows = [_leaning_worths(q, y - base) for y in range(high)]
    return (_flat_heights((wide, high)), rows_by((wide, high), lambda spot: rows[spot[1]][(spot[0] + spot[1]) % 2]))


def told_floors(order):
    """A dict from (LIFTS together, half of how many stones stand) to how many FLOORS, keys rising; BadOrder."""
    need_number(order, 1, MOST_ORDER)
    told = {(0, 0): 1}
    for k in range(1, order + 1):
        for _ in range(order + 1 - k):
            told = _times_one_more(told, 2 * k - 1)
    return {key: told[key] for key in sorted(told)}


def need_flat(field):
    """None, or BadField, also of a FIELD that isn't FLAT."""
    need_field(field)
    if not is_flat_rows(field[0]):
        raise BadField("flat")


def is_flat_rows(heights):
    """True of HEIGHTS that are 0 and 1 alone."""
    for row in heights:
        if min(row) < 0 or max(row) > 1:
            return False
    return True


def need_number(thing, least, most):
    """None, or BadOrder of anything that is no whole number within these bounds."""
    if not is_whole(thing) or not least <= thing <= most:
        raise BadOrder("this is no such number")


def _flat_heights(size):
    """The HEIGHTS of a FLAT FIELD of a BOARD of such a size."""
    return rows_by(size, lambda spot: (spot[0] + spot[1]) % 2)


def _leaning_worths(q, north):
    """The WORTHS at the heights 0 and 1, so many rows north of the base; TooGreat."""
    worth = short_power(q, north * (north + 1) // 2)
    # Above 0, one is turned over by exchanging both its numbers.
    return (worth[::-1], worth)


def _times_one_more(told, lifts):
    """All FLOORS with and without one more pair of stones that stands, and lifts so much."""
    behind = {key: many for key, many in told.items()}
    for (lift, standing), many in told.items():
        key = (lift + lifts, standing + 1)
        behind[key] = behind.get(key, 0) + many
    return behind
