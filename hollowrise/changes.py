"""Where the WORTH AT a TARGET changes with that of a SPOT, and FIELDS LADEN with FORMS."""

from hollowrise.cones import cone_of, stands, sunk
from hollowrise.errors import BadForm, BadFraction
from hollowrise.fields import around, at, is_worth, need_field, need_spot, neighbours_of, sides, spots_of, with_at
from hollowrise.figures import short_product
from hollowrise.fractions import times
from hollowrise.heights import highest_of
from hollowrise.kinds import need_rule
from hollowrise.pairings import bare_powers, by_ties, few_steps, need_pairing, powers_by, sum_of_pairings
from hollowrise.sweeps import sums_by
from hollowrise.targets import need_target

FORMS = ("one", "x", "y", "height", "xy", "x height", "y height", "squares")


def minded(field, target):
    """The SPOTS that a TARGET MINDS, rising."""
    need_target(field, target)
    return minded_by(field[0], target)


def minding(field, spot):
    """All TARGETS of the FIELD that MIND a SPOT, rising."""
    need_field(field)
    heights, _ = field
    need_spot(spot, sides(heights))
    most = highest_of(heights)
    told = []
    for x, y in spots_of(sides(heights)):
        for height in range(heights[y][x], most[y][x] + 1, 2):
            if _is_minded(heights, (x, y, height), spot):
                told.append((x, y, height))
    return tuple(told)


def parts(field, target, spot, *, rule=(1, 1)):
    """The PARTS of a SPOT in the sum of T3: a rising tuple of (POWER, FRACTION); TooGreat."""
    need_target(field, target)
    heights, worths = field
    need_spot(spot, sides(heights))
    need_rule(rule)
    steps = few_steps(heights, target)
    # By a WORTH of 1 at the SPOT the WORTHS of PAIRINGS are those without it.
    bare, brought = by_ties((heights, with_at(worths, spot, (1, 1))), target, steps, rule)
    counted = [step[0] for step in steps if spot in step[0]]
    often = sum([power for other, power in bare_powers(heights, target) if other == spot])
    told = sums_by(steps, brought, counted, rule)
    return tuple(sorted([(often - many, times(bare, told[many])) for many in told]))


def changed(field, target, spot, fraction, *, rule=(1, 1)):
    """The sum of T3 with another WORTH at a SPOT; BadFraction, also of 0, TooGreat."""
    need_target(field, target)
    heights, worths = field
    need_spot(spot, sides(heights))
    if not is_worth(fraction):
        raise BadFraction("a worth is a fraction other than nought")
    need_rule(rule)
    # What the PARTS come to with the other WORTH is the sum of the FIELD that has it.
    return sum_of_pairings((heights, with_at(worths, spot, fraction)), target, rule)


def form_at(form, x, y, height):
    """What a FORM is of a SPOT at a height; BadForm."""
    need_form(form)
    return _form_of(form, (x, y), height)


def laden(field, form, fraction):
    """The FIELD LADEN with a FORM by a FRACTION; BadForm, BadFraction, also of 0, TooGreat."""
    need_field(field)
    need_form(form)
    if not is_worth(fraction):
        raise BadFraction("a field is laden by a fraction other than nought")
    heights, worths = field
    lines = []
    for y, row in enumerate(worths):
        often = [_form_of(form, (x, y), height) for x, height in enumerate(heights[y])]
        lines.append(tuple([short_product(worth, fraction, number) for worth, number in zip(row, often)]))
    return (heights, tuple(lines))


def weighed(field, target, pairing, form):
    """The POWERS of a PAIRING, each times the FORM of its SPOT, together; BadForm."""
    need_pairing(field, target, pairing)
    need_form(form)
    heights, _ = field
    told = powers_by(bare_powers(heights, target), pairing)
    return sum([power * _form_of(form, spot, at(heights, spot)) for spot, power in told])


def need_form(thing):
    """None, or BadForm of anything that is no FORM."""
    if type(thing) is not str or thing not in FORMS:
        raise BadForm("this is no form")


def minded_by(heights, target):
    """As minded, of good HEIGHTS and a good TARGET."""
    if stands(heights, target):
        return (target[:2],)
    found = {}
    for spot in cone_of(heights, target):
        found[spot] = True
        # By 20 each NEIGHBOUR of a CLOSED SPOT is CLOSED or OPEN.
        for near in around(spot):
            found[near] = True
    return tuple(sorted(found))


def _is_minded(heights, target, spot):
    """True of a SPOT that a TARGET MINDS."""
    if stands(heights, target):
        return spot == target[:2]
    depth = sunk(heights, target, spot)
    if depth != 0:
        return depth > 0
    for near in neighbours_of(spot, sides(heights)):
        if sunk(heights, target, near) > 0:
            return True
    return False


def _form_of(form, spot, height):
    """As form_at, of a good FORM."""
    x, y = spot
    told = {"one": 1, "x": x, "y": y, "height": height, "xy": x * y, "x height": x * height, "y height": y * height}
    if form in told:
        return told[form]
    return x * x + y * y + height * height
