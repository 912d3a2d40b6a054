"""FRACTIONS, FIELDS, ROWS, PAIRINGS and TABLES written as texts, and read from these."""

from hollowrise.errors import BadFraction, BadPairing, BadTarget, BadText
from hollowrise.fields import MOST_RIM, MOST_SIDE, need_field, sides
from hollowrise.fractions import is_fraction
from hollowrise.pairings import need_pairing, need_pairing_on
from hollowrise.rows import is_deed, need_row_on
from hollowrise.tables import MOST_TABLE, is_line, need_table
from hollowrise.targets import need_target_on
from hollowrise.words import fraction_in_word, fraction_word, number_in_word

SIGNS = {0: "0", 1: "+", -1: "-"}
NUMBERS = {"0": 0, "+": 1, "-": -1}


def fraction_text(fraction):
    """A FRACTION as it is written; BadFraction, TooGreat."""
    if not is_fraction(fraction):
        raise BadFraction("this is no fraction")
    return fraction_word(fraction)


def field_text(field):
    """A FIELD as it is written; TooGreat."""
    need_field(field)
    heights, worths = field
    wide, high = sides(heights)
    lines = [f"field {wide} {high}"]
    for row in heights:
        lines.append(" ".join(["heights"] + [str(height) for height in row]))
    for row in worths:
        lines.append(" ".join(["worths"] + [fraction_word(worth) for worth in row]))
    return "\n".join(lines)


def row_text(row):
    """A ROW as it is written; BadRow."""
    need_row_on(row, (MOST_SIDE, MOST_SIDE))
    return "\n".join([f"{word} {x} {y}" for word, x, y in row])


def pairing_text(field, target, pairing):
    """A PAIRING as it is written; BadTarget, BadPairing."""
    need_pairing(field, target, pairing)
    x, y, top = target
    return "\n".join([f"target {x} {y} {top}"] + [f"tie {a} {b} {c} {d}" for (a, b), (c, d) in pairing])


def table_text(table):
    """A TABLE as it is written; BadTable."""
    need_table(table)
    return "\n".join(rows_signed(table))


def fraction_in(text):
    """The FRACTION that is written so; BadText."""
    lines = _lines_of(text)
    told = fraction_in_word(lines[0])
    if told is None:
        raise BadText(1)
    _need_no_more(lines, 1)
    return told


def field_in(text):
    """The FIELD that is written so; BadText."""
    lines = _lines_of(text)
    size = _numbers_behind(lines[0], "field", 2)
    if size is None or not 1 <= size[0] <= MOST_SIDE or not 1 <= size[1] <= MOST_SIDE:
        raise BadText(1)
    wide, high = size
    heights = []
    for number in range(1, high + 1):
        row = _numbers_behind(_line_at(lines, number), "heights", wide)
        if row is None or not _can_stand_on(heights, row, high):
            raise BadText(number + 1)
        heights.append(row)
    worths = []
    for number in range(high + 1, 2 * high + 1):
        row = _worths_in(_line_at(lines, number), wide)
        if row is None:
            raise BadText(number + 1)
        worths.append(row)
    _need_no_more(lines, 2 * high + 1)
    return (tuple(heights), tuple(worths))


def row_in(text):
    """The ROW that is written so; BadText."""
    lines = _lines_of(text)
    if text == "":
        return ()
    row = []
    for number, line in enumerate(lines):
        word = line.partition(" ")[0]
        place = _numbers_behind(line, word, 2)
        if place is None or not is_deed((word,) + place, (MOST_SIDE, MOST_SIDE)):
            raise BadText(number + 1)
        row.append((word,) + place)
    return tuple(row)


def pairing_in(field, text):
    """The pair (TARGET, PAIRING) that is written so; BadText."""
    need_field(field)
    heights, _ = field
    lines = _lines_of(text)
    target = _target_in(heights, lines[0])
    ties = []
    for line in lines[1:]:
        numbers = _numbers_behind(line, "tie", 4)
        if numbers is None:
            break
        ties.append((numbers[:2], numbers[2:]))
    try:
        need_pairing_on(heights, target, tuple(ties))
    except BadPairing as refusal:
        # What is wrong with a PAIRING is wrong with its line, or lacks behind the last one that is a TIE's.
        raise BadText(refusal.number + 2)
    _need_no_more(lines, len(ties) + 1)
    return (target, tuple(ties))


def table_in(text):
    """The TABLE that is written so; BadText."""
    lines = _lines_of(text)
    size = len(lines[0])
    if not 1 <= size <= MOST_TABLE:
        raise BadText(1)
    totals = (0,) * size
    table = []
    for number in range(size):
        row = _signs_in(_line_at(lines, number), size)
        if row is None or not is_line(row):
            raise BadText(number + 1)
        totals = tuple([total + more for total, more in zip(totals, row)])
        # As long as each column comes to 0 or 1 there are rows to go on with.
        if min(totals) < 0 or max(totals) > 1:
            raise BadText(number + 1)
        table.append(row)
    _need_no_more(lines, size)
    return tuple(table)


def rows_signed(table):
    """A text for each row of a TABLE, or of ()."""
    return ["".join([SIGNS[number] for number in row]) for row in table]


def _lines_of(thing):
    """The lines of a text; BadText(0) of what is none."""
    if type(thing) is not str:
        raise BadText(0)
    return thing.split("\n")


def _line_at(lines, number):
    """The line of a number, from 0; BadText where it lacks."""
    if number >= len(lines):
        raise BadText(len(lines) + 1)
    return lines[number]


def _need_no_more(lines, many):
    """None, or BadText of a line more than so many."""
    if len(lines) > many:
        raise BadText(many + 1)


def _numbers_behind(line, word, many):
    """A tuple of so many whole numbers behind a word, None where a line isn't written so."""
    words = line.split(" ")
    if len(words) != many + 1 or words[0] != word:
        return None
    numbers = [number_in_word(other) for other in words[1:]]
    if None in numbers:
        return None
    return tuple(numbers)


def _worths_in(line, wide):
    """A tuple of so many WORTHS, None where a line isn't written so."""
    words = line.split(" ")
    if len(words) != wide + 1 or words[0] != "worths":
        return None
    worths = [fraction_in_word(word) for word in words[1:]]
    if None in worths or (0, 1) in worths:
        return None
    return tuple(worths)


def _can_stand_on(heights, row, high):
    """True of a row of whole numbers that HEIGHTS, so HIGH, can have to the north of those ahead."""
    y = len(heights)
    for x, height in enumerate(row):
        if (x in (0, len(row) - 1) or y in (0, high - 1)) and not -MOST_RIM <= height <= MOST_RIM:
            return False
        if (x + y + height) % 2 == 1:
            return False
        if x > 0 and abs(height - row[x - 1]) != 1:
            return False
        if y > 0 and abs(height - heights[-1][x]) != 1:
            return False
    return True


def _target_in(heights, line):
    """The TARGET of a PAIRING's first line; BadText."""
    # Where the line isn't written so this is None, no TARGET either.
    target = _numbers_behind(line, "target", 3)
    try:
        need_target_on(heights, target)
    except BadTarget:
        raise BadText(1)
    return target


def _signs_in(line, size):
    """A tuple of so many numbers that a row of a TABLE has, None where a line isn't written so."""
    if len(line) != size:
        return None
    numbers = [NUMBERS.get(sign) for sign in line]
    if None in numbers:
        return None
    return tuple(numbers)
