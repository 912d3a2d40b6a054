"""ROWS of DEEDS: done, TOLD BACK, and the FEWEST ROWS that lead from HEIGHTS to HEIGHTS."""

from hollowrise.deeds import DOWN, UP, height_behind, is_movable, worth_moved
from hollowrise.errors import BadRow, DeedError, TooGreat
from hollowrise.fields import MOST_SIDE, at, inner_of, is_spot, need_field, sides, spots_of, with_at
from hollowrise.heights import MOST_HEIGHTS, greater_of, how_many_between, lesser_of, need_alike
from hollowrise.kinds import is_tuple_of, is_whole, need_rule


def need_row(field, row):
    """None, or BadRow(number) of anything that is no ROW of DEEDS at SPOTS of the FIELD."""
    need_field(field)
    need_row_on(row, sides(field[0]))


def done(field, row, *, rule=(1, 1)):
    """The FIELD to which a ROW leads; else as its first DEED that can't be done is refused."""
    need_row(field, row)
    need_rule(rule)
    return done_by(field, row, rule)


def how_far(field, row, *, rule=(1, 1)):
    """How many of its first DEEDS can be done."""
    need_row(field, row)
    need_rule(rule)
    heights, worths = as_lists(field)
    for number, deed in enumerate(row):
        try:
            _do(heights, worths, deed, rule)
        except DeedError:
            return number
    return len(row)


def back(row):
    """The ROW TOLD BACK."""
    need_row_on(row, (MOST_SIDE, MOST_SIDE))
    return tuple([other_way(deed) for deed in row[::-1]])


def first_row(one, other):
    """The FIRST ROW from one to the other."""
    need_alike(one, other)
    return first_row_of(one, other)


def how_many_rows(one, other):
    """How many FEWEST ROWS there are; TooGreat where more than 4096 HEIGHTS lie on them."""
    need_alike(one, other)
    return _rows_left(one, other)[one]


def row_by(one, other, number):
    """The FEWEST ROW of that number, as tuples rise; TooGreat, BadRow(number)."""
    need_alike(one, other)
    rows_left = _rows_left(one, other)
    if not is_whole(number) or not 0 <= number < rows_left[one]:
        raise BadRow(number)
    row = []
    heights = one
    while heights != other:
        deed, number = _deed_of_number(heights, other, rows_left, number)
        row.append(deed)
        heights = heights_behind(heights, deed)
    return tuple(row)


def led(field, heights, *, rule=(1, 1)):
    """The FIELD brought to HEIGHTS by the FIRST ROW."""
    need_field(field)
    need_alike(field[0], heights)
    need_rule(rule)
    return done_by(field, first_row_of(field[0], heights), rule)


def is_deed(thing, size):
    """True of a DEED at a SPOT of a BOARD of such a size, of anything."""
    if not is_tuple_of(thing, 3) or type(thing[0]) is not str:
        return False
    return thing[0] in ("up", "down") and is_spot(spot_of(thing), size)


def need_row_on(thing, size):
    """None, or BadRow(number) of anything that is no ROW on a BOARD of such a size."""
    if type(thing) is not tuple:
        raise BadRow(None)
    for number, deed in enumerate(thing):
        if not is_deed(deed, size):
            raise BadRow(number)


def spot_of(deed):
    """The SPOT of a DEED."""
    return deed[1:]


def step_of(deed):
    """Whether a DEED goes UP or DOWN."""
    if deed[0] == "up":
        return UP
    return DOWN


def other_way(deed):
    """The DEED that undoes another one."""
    if step_of(deed) == UP:
        return ("down",) + spot_of(deed)
    return ("up",) + spot_of(deed)


def heights_behind(heights, deed):
    """The HEIGHTS to which a DEED leads."""
    spot = spot_of(deed)
    return with_at(heights, spot, height_behind(heights, spot, step_of(deed)))


def deeds_nearer(heights, last):
    """All DEEDS that HEIGHTS let be done and that bring a SPOT nearer to its last height, rising."""
    spots = spots_of(sides(heights))
    above = [spot for spot in spots if at(heights, spot) > at(last, spot)]
    below = [spot for spot in spots if at(heights, spot) < at(last, spot)]
    downs = [("down",) + spot for spot in above if is_movable(heights, spot, DOWN)]
    ups = [("up",) + spot for spot in below if is_movable(heights, spot, UP)]
    return downs + ups


def first_row_of(one, other):
    """As first_row, of HEIGHTS that are alike."""
    heights = [list(row) for row in one]
    # All FEWEST ROWS are as long, and each DEED that brings nearer begins one: the least one begins the first. There is
    # one that goes down as long as a SPOT stands higher than at last.
    spots = inner_of(sides(other))
    downs = first_deeds(heights, other, "down", [(x, y) for x, y in spots if one[y][x] > other[y][x]])
    return tuple(downs + first_deeds(heights, other, "up", [(x, y) for x, y in spots if one[y][x] < other[y][x]]))


def as_lists(field):
    """The heights and the WORTHS of a FIELD as lists of lists, the caller's own."""
    heights, worths = field
    return ([list(row) for row in heights], [list(row) for row in worths])


def first_deeds(heights, last, word, left):
    """The DEEDS of one word that bring the SPOTS that are left, rising, to their last height, always the first.

    They are done at lists of heights; the list of what is left is used up.
    """
    step = step_of((word, 0, 0))
    deeds = []
    number = 0
    while left:
        x, y = left[number]
        row = heights[y]
        height = row[x] + step
        # As is_movable: to call that for each SPOT takes longer than all else here.
        if row[x - 1] != height or row[x + 1] != height or heights[y - 1][x] != height or heights[y + 1][x] != height:
            number += 1
            continue
        deeds.append((word, x, y))
        row[x] = height + step
        if row[x] == last[y][x]:
            del left[number]
        # Of those ahead that couldn't go just its NEIGHBOURS may have come to.
        near = (x - 1, y)
        while number > 0 and left[number - 1] >= near:
            number -= 1
    return deeds


def _do(heights, worths, deed, rule):
    """A good DEED done at lists of heights and WORTHS, or as it is refused."""
    x, y = spot_of(deed)
    step = step_of(deed)
    worths[y][x] = worth_moved(heights, worths, (x, y), step, rule)
    heights[y][x] += 2 * step


def done_by(field, row, rule):
    """As done, of a good ROW and RULE."""
    heights, worths = as_lists(field)
    for deed in row:
        _do(heights, worths, deed, rule)
    return (tuple([tuple(line) for line in heights]), tuple([tuple(line) for line in worths]))


def _rows_left(one, other):
    """A dict from all HEIGHTS on FEWEST ROWS to how many lead from there to the other; TooGreat."""
    # Any HEIGHTS between both lie on one: from each of both as many DEEDS lead there as they differ.
    if how_many_between(lesser_of(one, other), greater_of(one, other)) > MOST_HEIGHTS:
        raise TooGreat(MOST_HEIGHTS)
    rows_left = {other: 1}
    reached = [other]
    while reached != [one]:
        ahead = []
        for heights in reached:
            for deed in deeds_nearer(heights, one):
                nearer = heights_behind(heights, deed)
                if nearer not in rows_left:
                    rows_left[nearer] = 0
                    ahead.append(nearer)
                rows_left[nearer] = rows_left[nearer] + rows_left[heights]
        reached = ahead
    return rows_left


def _deed_of_number(heights, last, rows_left, number):
    """The first DEED of the FEWEST ROW of that number, and which number what follows it has among such."""
    deeds = deeds_nearer(heights, last)
    for deed in deeds[:-1]:
        many = rows_left[heights_behind(heights, deed)]
        if number < many:
            return (deed, number)
        number -= many
    return (deeds[-1], number)
