"""TABLES of 0, 1 and -1, and the PAIRINGS of FLAT FIELDS that two of them that MEET are."""

from math import factorial

from hollowrise.errors import BadHeights, BadTable, NotMet, TooGreat
from hollowrise.fields import columns, sides
from hollowrise.fractions import fraction
from hollowrise.heights import need_heights, rows_by
from hollowrise.kinds import is_tuple_of, is_whole, need_rule
from hollowrise.minors import inside_of, need_no_nought, need_rows, need_square, square_of
from hollowrise.pairings import need_pairing_on
from hollowrise.webs import tie_of

MOST_TABLE = 7
MOST_TABLES = 4096
MOST_SUM = 5


def is_table(thing):
    """True of a TABLE, of anything."""
    try:
        need_table(thing)
    except BadTable:
        return False
    return True


def need_table(thing):
    """None, or BadTable(place) of anything that is no TABLE."""
    if type(thing) is not tuple or not 1 <= len(thing) <= MOST_TABLE:
        raise BadTable(None)
    for row in thing:
        if not _is_row(row, len(thing)):
            raise BadTable(None)
    for number, row in enumerate(thing):
        if not is_line(row):
            raise BadTable(("row", number))
    for number, column in enumerate(columns(thing)):
        if not is_line(column):
            raise BadTable(("column", number))


def sums(table):
    """The SUMS of a TABLE: a row and a column more than it has."""
    need_table(table)
    return _sums_of(table)


def minuses(table):
    """How many -1s a TABLE has."""
    need_table(table)
    return sum([row.count(-1) for row in table])


def crossings(table):
    """Of each two numbers, of a row ahead and a column behind the other's, both multiplied; all together."""
    need_table(table)
    totals = (0,) * len(table)
    told = 0
    for row in table:
        told += _crossings_of(totals, row)
        totals = _columns_behind(totals, row)
    return told


def heights_of(table):
    """The HEIGHTS of a TABLE."""
    need_table(table)
    rows = _sums_of(table)
    return rows_by(sides(rows), lambda spot: spot[0] + spot[1] - 2 * rows[spot[1]][spot[0]])


def table_of(heights):
    """The TABLE that has these HEIGHTS; BadHeights, also of another RIM."""
    need_heights(heights)
    wide, high = sides(heights)
    if wide != high or not 1 <= wide - 1 <= MOST_TABLE:
        raise BadHeights("no table has heights of such a board")
    size = wide - 1
    # As NEIGHBOURS are one apart, the four corners tell all of this RIM.
    if (heights[0][0], heights[0][-1], heights[-1][0], heights[-1][-1]) != (0, size, size, 0):
        raise BadHeights("these are heights of another rim")
    rows = [[(x + y - height) // 2 for x, height in enumerate(row)] for y, row in enumerate(heights)]
    return _table_by(rows)


def all_tables(size):
    """A list of all TABLES of so many rows, rising; BadTable, TooGreat of more than 4096."""
    if how_many_tables(size) > MOST_TABLES:
        raise TooGreat(MOST_TABLES)
    told = [((), (0,) * size)]
    for _ in range(size):
        ahead = told
        told = []
        for table, totals in ahead:
            told.extend([(table + (row,), _columns_behind(totals, row)) for row in _rows_on(totals)])
    return [table for table, _ in told]


def how_many_tables(size):
    """How many TABLES of so many rows there are; BadTable."""
    if not is_whole(size) or not 1 <= size <= MOST_TABLE:
        raise BadTable(None)
    above = 1
    below = 1
    for number in range(size):
        above = above * factorial(3 * number + 1)
        below = below * factorial(size + number)
    return above // below


def meet(great, small):
    """True of two TABLES that MEET; BadTable, also of a small one that isn't of one row less."""
    _need_both(great, small)
    if len(small) != len(great) - 1:
        raise BadTable(None)
    return _are_met(_sums_of(great), _sums_of(small))


def small_ones(great):
    """A rising list of all TABLES that MEET this one as the GREAT one."""
    need_table(great)
    rows = _sums_of(great)
    size = len(great)
    most = [[min(rows[i + 1][j], rows[i][j + 1]) for j in range(size)] for i in range(size)]
    # Each SUM is what it can be at most, but one less as well where the GREAT one has a -1.
    return _all_by(_table_by(most), _places_of(great, -1), -1)


def great_ones(small):
    """A rising list of all TABLES that MEET this one as the SMALL one; BadTable, also of one of 7 rows."""
    _need_small(small)
    size = len(small)
    if size == MOST_TABLE:
        raise BadTable(None)
    rows = _sums_of(small)
    least = [[0] * (size + 2)]
    for i in range(1, size + 1):
        least.append([0] + [max(rows[i - 1][j], rows[i][j - 1]) for j in range(1, size + 1)] + [i])
    least.append(list(range(size + 2)))
    # Each SUM is what it has to be at least, but one more as well where the SMALL one has a 1.
    return _all_by(_table_by(least), [(i + 1, j + 1) for i, j in _places_of(small, 1)], 1)


def great_of(field, target, pairing):
    """The GREAT TABLE of a PAIRING of a FLAT FIELD; refused as a SQUARE is, then BadPairing."""
    need_square(field, target)
    need_pairing_on(field[0], target, pairing)
    many = _many_at(pairing)
    return tuple([tuple([1 - many.get(spot, 0) for spot in row]) for row in square_of(target)])


def small_of(field, target, pairing):
    """The SMALL TABLE of a PAIRING of a FLAT FIELD; refused as a SQUARE is, then BadPairing."""
    need_square(field, target)
    need_pairing_on(field[0], target, pairing)
    many = _many_at(pairing)
    return tuple([tuple([many.get(spot, 0) - 1 for spot in row]) for row in inside_of(target)])


def pairing_of(field, target, great, small):
    """The PAIRING of a FLAT FIELD that two TABLES are; refused as a SQUARE is, then BadTable, NotMet."""
    need_square(field, target)
    _need_both(great, small)
    if len(great) != target[2] or len(small) != target[2] - 1:
        raise BadTable(None)
    sums_great = _sums_of(great)
    sums_small = _sums_of(small)
    if not _are_met(sums_great, sums_small):
        raise NotMet("these tables don't meet")
    return _pairing_by(target, sums_great, sums_small)


def sum_by_tables(rows, *, rule=(1, 1)):
    """The sum of T13, over all TABLES, of a SQUARE of these WORTHS; BadRows."""
    need_rows(rows, 1, MOST_SUM)
    need_no_nought(rows)
    need_rule(rule)
    wholes = [_wholes_of(rows, number) for number in range(len(rows))]
    # What follows hangs on what the columns come to alone, so what is ahead is put together by that.
    found = {(0,) * len(rows): 1}
    divisor = 1
    for line in wholes:
        ahead = found
        found = {}
        for totals, whole in ahead.items():
            for row in _rows_on(totals):
                behind = _columns_behind(totals, row)
                brought = _brought_by(totals, row, rule)
                for number, three in zip(row, line):
                    brought = brought * three[number]
                found[behind] = found.get(behind, 0) + whole * brought
        for three in line:
            divisor = divisor * three[0]
    return fraction(found[(1,) * len(rows)], divisor)


def _is_row(thing, many):
    """True of a tuple of so many 0s, 1s and -1s, of anything."""
    if not is_tuple_of(thing, many):
        return False
    for number in thing:
        if type(number) is not int or not -1 <= number <= 1:
            return False
    return True


def is_line(numbers):
    """True of a row or a column as a TABLE has it."""
    told = 0
    for number in numbers:
        told += number
        if told != 0 and told != 1:
            return False
    return told == 1


def _need_both(great, small):
    """None, or BadTable of what is no GREAT TABLE, then of what is no SMALL one, () where that is of 1 row."""
    need_table(great)
    if len(great) == 1:
        _need_small(small)
    else:
        need_table(small)


def _need_small(thing):
    """None, or BadTable(place) of anything that is no TABLE, nor ()."""
    if type(thing) is not tuple or len(thing) > 0:
        need_table(thing)


def _sums_of(table):
    """As sums, of a TABLE or ()."""
    rows = [(0,) * (len(table) + 1)]
    for row in table:
        line = [0]
        ahead = 0
        for above, number in zip(rows[-1][1:], row):
            ahead += number
            line.append(above + ahead)
        rows.append(tuple(line))
    return tuple(rows)


def _table_by(rows):
    """The TABLE, or (), that has these SUMS."""
    table = []
    for above, line in zip(rows, rows[1:]):
        table.append(tuple([line[j + 1] - line[j] - above[j + 1] + above[j] for j in range(len(line) - 1)]))
    return tuple(table)


def _columns_behind(totals, row):
    """What the columns come to behind one more row."""
    return tuple([ahead + number for ahead, number in zip(totals, row)])


def _crossings_of(totals, row):
    """What a row brings to CROSSINGS, by what the columns come to ahead of it."""
    told = 0
    east = 0
    for ahead, number in zip(totals[::-1], row[::-1]):
        told += number * east
        east += ahead
    return told


def _rows_on(totals):
    """All rows, rising, that a TABLE may go on with where its columns come to these totals."""
    told = [((), 0)]
    for column in totals:
        ahead = told
        told = []
        for row, total in ahead:
            if total == 1 and column == 1:
                told.append((row + (-1,), 0))
            told.append((row + (0,), total))
            if total == 0 and column == 0:
                told.append((row + (1,), 1))
    return [row for row, total in told if total == 1]


def _wholes_of(rows, number):
    """Of each WORTH of a row, by 0, 1 and -1, what it is to that, times one number that makes all of these whole."""
    told = []
    for place, (above, below) in enumerate(rows[number]):
        if number in (0, len(rows) - 1) or place in (0, len(rows) - 1):
            # No TABLE has a -1 there.
            told.append((below, above, 0))
        else:
            told.append((above * below, above * above, below * below))
    return told


def _brought_by(totals, row, rule):
    """What a row brings to the sum of T13 but WORTHS: As, Bs and As + Bs, as many together as rows are ahead."""
    a, b = rule
    crossed = _crossings_of(totals, row)
    minus = row.count(-1)
    told = 1
    for number, often in ((a, sum(totals) - crossed), (b, crossed - minus), (a + b, minus)):
        for _ in range(often):
            told = told * number
    return told


def _are_met(great, small):
    """True where two TABLES MEET, by the SUMS of both."""
    for i, row in enumerate(small):
        for j, number in enumerate(row):
            if number < great[i][j] or number < great[i + 1][j + 1] - 1:
                return False
            if number > great[i + 1][j] or number > great[i][j + 1]:
                return False
    return True


def _places_of(table, number):
    """All (row, column) where a TABLE has a number."""
    return [(i, j) for i, row in enumerate(table) for j, other in enumerate(row) if other == number]


def _all_by(table, places, step):
    """All TABLES that have the SUMS of one, or any of these at some places so much more, rising."""
    told = [table]
    for i, j in places:
        told = told + [_with_sum(other, i, j, step) for other in told]
    return sorted(told)


def _with_sum(table, i, j, step):
    """The TABLE whose SUM (i, j) is so much more, all others the same."""
    north = table[i - 1]
    south = table[i]
    north = north[:j - 1] + (north[j - 1] + step, north[j] - step) + north[j + 1:]
    south = south[:j - 1] + (south[j - 1] - step, south[j] + step) + south[j + 1:]
    return table[:i - 1] + (north, south) + table[i + 1:]


def _many_at(pairing):
    """A dict from SPOTS to how many TIES of a PAIRING lie at them."""
    many = {}
    for tie in pairing:
        for spot in tie:
            many[spot] = many.get(spot, 0) + 1
    return many


def _pairing_by(target, great, small):
    """The PAIRING of two TABLES that MEET, by the SUMS of both: at each CORNER these tell both SPOTS of its TIE."""
    spots = square_of(target)
    within = inside_of(target)
    size = len(spots)
    ties = {}
    for i in range(size):
        for j in range(size - 1):
            # Where (i, j) and (i, j + 1) of the SQUARE meet, (i - 1, j) and (i, j) of the INSIDE.
            spot = spots[i][j + great[i + 1][j + 1] - great[i][j + 1]]
            ties[tie_of(spot, within[i - small[i][j + 1] + small[i][j]][j])] = True
            # Where (j, i) and (j + 1, i) meet, (j, i - 1) and (j, i).
            spot = spots[j + great[j + 1][i + 1] - great[j + 1][i]][i]
            ties[tie_of(spot, within[j][i - small[j + 1][i] + small[j][i]])] = True
    return tuple(sorted(ties))
