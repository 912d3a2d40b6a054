"""The WORTHS of a SPOT at all heights that it can be brought to, and FIELDS that hold what was found of them."""

from hollowrise.cones import levels_to, worths_risen
from hollowrise.deeds import need_movable, worth_behind
from hollowrise.errors import BadRow, BadTarget, Gone, Nought
from hollowrise.fields import around, at, is_spot, need_field, need_spot, sides, spots_of, way, with_at
from hollowrise.heights import rows_by, span_at
from hollowrise.kinds import is_whole, need_rule
from hollowrise.rows import first_row_of, heights_behind, is_deed, other_way, spot_of, step_of


def span(field, spot):
    """(LOWEST, HIGHEST) of the FIELD's RIM at a SPOT."""
    need_field(field)
    need_spot(spot, sides(field[0]))
    return span_at(field[0], spot)


def need_height(field, x, y, height):
    """None, or BadTarget of anything that is no SPOT with a height that it can be brought to."""
    need_field(field)
    _need_height_of(field[0], x, y, height)


def worth_at(field, x, y, height, *, rule=(1, 1)):
    """The WORTH of a SPOT at a height; Nought where a DEED of the FIRST ROW there would come to 0."""
    need_height(field, x, y, height)
    need_rule(rule)
    heights, worths = field
    told = worths_risen(worths, _levels_at(heights, x, y, height), rule)
    if told is not None:
        return told[0][y][x]
    # By this it is refused at the first of its DEEDS for which that is due.
    row = first_row_of(heights, _nearest(heights, (x, y), height))
    return levels_behind(field, row, rule)[(x, y, height)]


def worths_at(field, spot, *, rule=(1, 1)):
    """A tuple of (HEIGHT, WORTH) of all heights of the span, rising; WORTH None where worth_at is refused."""
    need_field(field)
    need_spot(spot, sides(field[0]))
    need_rule(rule)
    low, high = span_at(field[0], spot)
    held = Held(field, rule=rule)
    return tuple([(height, _worth_or_none(held, spot, height)) for height in range(low, high + 1, 2)])


class Held:
    """A FIELD and RULE with all WORTHS that were found, by SPOT and height."""

    def __init__(self, field, *, rule=(1, 1)):
        need_field(field)
        need_rule(rule)
        self._field = field
        self._rule = rule
        self._held = _held_at_first(field)
        self._row = []
        self._many_reckoned = 0

    def __eq__(self, other):
        """True of another one whose FIELD as it stands and RULE are the same."""
        return isinstance(other, Held) and self._field == other._field and self._rule == other._rule

    def __len__(self):
        """How many DEEDS stand."""
        return len(self._row)

    def do(self, deed):
        """The WORTH that comes by a DEED; BadRow(None), then as the DEED is refused."""
        heights, _ = self._field
        if not is_deed(deed, sides(heights)):
            raise BadRow(None)
        need_movable(heights, spot_of(deed), step_of(deed))
        self._hold((deed,))
        self._row.append(deed)
        return self._go(deed)

    def undo(self):
        """The last DEED that stood, undone; Gone without one."""
        if len(self._row) == 0:
            raise Gone("there is no deed to undo")
        deed = self._row.pop()
        self._go(other_way(deed))
        return deed

    def now(self):
        """The FIELD as it stands."""
        return self._field

    def journal(self):
        """The ROW of DEEDS that stand."""
        return tuple(self._row)

    def worth_at(self, x, y, height):
        """As worth_at of the FIELD as it stands, refused so."""
        heights, _ = self._field
        _need_height_of(heights, x, y, height)
        if (x, y, height) not in self._held:
            # The whole ROW is gone, what is held as well: so it is refused as it is from the FIELD as it stands.
            self._hold(first_row_of(heights, _nearest(heights, (x, y), height)))
        return self._held[(x, y, height)]

    def reckoned(self):
        """How many WORTHS were RECKONED since it was made."""
        return self._many_reckoned

    def _hold(self, row):
        """What a ROW wants is held from now on; where it is refused nothing is."""
        heights, _ = self._field
        held = _held_behind(self._held, heights, row, self._rule)
        self._many_reckoned += len(held) - len(self._held)
        self._held = held

    def _go(self, deed):
        """The WORTH to which a DEED leads that is held; the FIELD stands so from now on."""
        heights, worths = self._field
        x, y = spot_of(deed)
        reached = heights_behind(heights, deed)
        worth = self._held[(x, y, at(reached, (x, y)))]
        self._field = (reached, with_at(worths, (x, y), worth))
        return worth


def _need_height_of(heights, x, y, height):
    """As need_height, of good HEIGHTS."""
    if not is_spot((x, y), sides(heights)) or not is_whole(height):
        raise BadTarget("this is no spot with a height")
    low, high = span_at(heights, (x, y))
    if not low <= height <= high or (height - low) % 2 == 1:
        raise BadTarget("this spot can't be brought to this height")


def _levels_at(heights, x, y, height):
    """The levels by which a SPOT comes to a height; downwards by heights UPSIDE DOWN, as the rule is one both ways."""
    if heights[y][x] <= height:
        return levels_to(heights, (x, y, height))
    return levels_to(tuple([tuple([-other for other in row]) for row in heights]), (x, y, -height))


def _nearest(heights, spot, height):
    """The HEIGHTS nearest to these that have a SPOT at a height."""
    if at(heights, spot) > height:
        return rows_by(sides(heights), lambda other: min(at(heights, other), height + way(spot, other)))
    return rows_by(sides(heights), lambda other: max(at(heights, other), height - way(spot, other)))


def levels_behind(field, row, rule):
    """A dict from (X, Y, HEIGHT) to the WORTH, of the FIELD's own and of all that a ROW wants; or Nought."""
    return _held_behind(_held_at_first(field), field[0], row, rule)


def _held_at_first(field):
    """The WORTHS of a FIELD's SPOTS at their heights, by (X, Y, HEIGHT)."""
    heights, worths = field
    return {spot + (at(heights, spot),): at(worths, spot) for spot in spots_of(sides(heights))}


def _held_behind(held, heights, row, rule):
    """What is held behind a ROW from these HEIGHTS: what was ahead, and what it wants; or Nought."""
    known = {level: held[level] for level in held}
    reached = [list(line) for line in heights]
    for deed in row:
        x, y = spot_of(deed)
        reached[y][x] += 2 * step_of(deed)
        level = (x, y, reached[y][x])
        if level not in known:
            known[level] = _reckoned(known, level, step_of(deed), rule)
    return known


def _reckoned(known, level, step, rule):
    """The WORTH of a SPOT at a height to which it goes UP or DOWN, by those that are known; or Nought."""
    x, y, height = level
    near = [known[(a, b, height - step)] for a, b in around((x, y))]
    return worth_behind((x, y), near, known[(x, y, height - 2 * step)], rule)


def _worth_or_none(held, spot, height):
    """The WORTH of a SPOT at a good height, or None where it is refused."""
    x, y = spot
    try:
        return held.worth_at(x, y, height)
    except Nought:
        return None
