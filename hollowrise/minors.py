"""SQUARES of FLAT FIELDS, and MINORS of rows of FRACTIONS."""

from math import gcd

from hollowrise.errors import BadRows, BadTarget
from hollowrise.fields import at
from hollowrise.flats import flat, need_flat
from hollowrise.fractions import fraction
from hollowrise.kinds import is_tuple_of, is_whole
from hollowrise.targets import need_target_on

MOST_MINOR = 7
MOST_FRAME = 6


def square(field, target):
    """The SQUARE of a FLAT FIELD and a TARGET: a tuple of rows of SPOTS; BadTarget, also of an N of 0."""
    need_square(field, target)
    return square_of(target)


def inside(field, target):
    """The INSIDE of a SQUARE: a tuple of rows of SPOTS; BadTarget, also of an N of 0."""
    need_square(field, target)
    return inside_of(target)


def square_worths(field, target):
    """The SQUARE's WORTHS, by rows; BadTarget, also of an N of 0."""
    need_square(field, target)
    return _worths_at(field, square_of(target))


def minor_at(field, target):
    """The MINOR of the SQUARE's WORTHS; BadTarget, also of an N of 0."""
    need_square(field, target)
    return _minor_of(_worths_at(field, square_of(target)))


def is_plain(field, target):
    """True where the INSIDE's WORTHS are all 1; BadTarget, also of an N of 0."""
    need_square(field, target)
    for row in _worths_at(field, inside_of(target)):
        for worth in row:
            if worth != (1, 1):
                return False
    return True


def minor(rows):
    """The MINOR of rows of FRACTIONS; BadRows."""
    need_rows(rows, 0, MOST_MINOR)
    return _minor_of(rows)


def frame(size):
    """(WIDE, HIGH, X, Y) of a BOARD on which a SQUARE of such a size has room; BadRows."""
    if not is_whole(size) or not 1 <= size <= MOST_FRAME:
        raise BadRows("there is no frame of this size")
    if size % 2 == 0:
        return (2 * size - 1, 2 * size - 1, size - 1, size - 1)
    return (2 * size, 2 * size - 1, size, size - 1)


def field_by(rows):
    """The FLAT FIELD whose SQUARE has these WORTHS, all others being 1; BadRows, also where one is 0."""
    need_rows(rows, 1, MOST_FRAME)
    need_no_nought(rows)
    wide, high, x, y = frame(len(rows))
    heights, worths = flat(wide, high)
    lines = [list(row) for row in worths]
    for spots, row in zip(square_of((x, y, len(rows))), rows):
        for (a, b), worth in zip(spots, row):
            lines[b][a] = worth
    return (heights, tuple([tuple(line) for line in lines]))


def need_square(field, target):
    """None, or as all that asks for a SQUARE is refused."""
    need_flat(field)
    need_target_on(field[0], target)
    if target[2] < 1:
        raise BadTarget("this target has no square")


def square_of(target):
    """As square, of a good TARGET."""
    x, y, size = target
    return tuple([tuple([(x + i + j - size + 1, y + i - j) for j in range(size)]) for i in range(size)])


def inside_of(target):
    """As inside, of a good TARGET."""
    x, y, size = target
    return tuple([tuple([(x + i + j - size + 2, y + i - j) for j in range(size - 1)]) for i in range(size - 1)])


def need_rows(thing, least, most):
    """None, or BadRows of anything that is no tuple of so many rows, tuples of as many FRACTIONS."""
    if type(thing) is not tuple or not least <= len(thing) <= most:
        raise BadRows("these are no such rows")
    for row in thing:
        if not _is_row(row, len(thing)):
            raise BadRows("these are no rows of fractions")


def need_no_nought(rows):
    """None, or BadRows of rows of FRACTIONS one of which is 0."""
    for row in rows:
        for above, _ in row:
            if above == 0:
                raise BadRows("a worth is a fraction other than nought")


def _is_row(thing, many):
    """True of a tuple of so many FRACTIONS, of anything."""
    if not is_tuple_of(thing, many):
        return False
    for one in thing:
        # As is_fraction, once more: to call that for each FRACTION takes longer than all else here.
        if type(one) is not tuple or len(one) != 2:
            return False
        above, below = one
        if type(above) is not int or type(below) is not int:
            return False
        if below != 1 and (below < 1 or gcd(above, below) != 1):
            return False
    return True


def _worths_at(field, spots):
    """The WORTHS of rows of SPOTS."""
    return tuple([tuple([at(field[1], spot) for spot in row]) for row in spots])


def _minor_of(rows):
    """As minor, of good rows: of whole numbers, divided at the end by what made them whole."""
    wholes = []
    divisor = 1
    for row in rows:
        shared = 1
        for _, below in row:
            shared = shared * (below // gcd(shared, below))
        wholes.append([above * (shared // below) for above, below in row])
        divisor = divisor * shared
    return fraction(_whole_minor(wholes), divisor)


def _whole_minor(lines):
    """The MINOR of a list of lists of whole numbers, which it uses up."""
    sign = 1
    ahead = 1
    size = len(lines)
    for number in range(size):
        found = [line for line in range(number, size) if lines[line][number] != 0]
        if len(found) == 0:
            return 0
        if found[0] != number:
            lines[number], lines[found[0]] = lines[found[0]], lines[number]
            sign = -sign
        first = lines[number]
        for line in lines[number + 1:]:
            _clear(line, first, number, ahead)
        ahead = first[number]
    return sign * ahead


def _clear(line, first, number, ahead):
    """A line less as much of the first one as makes 0 of its first number; each number stays whole, being a MINOR."""
    top = first[number]
    own = line[number]
    size = len(line)
    for place in range(number, size):
        line[place] = (line[place] * top - own * first[place]) // ahead
