"""A desk: a BOOK that is led and asked by lines of text."""

from hollowrise.book import Book, is_name
from hollowrise.changes import FORMS, minded
from hollowrise.cones import heights_of_target
from hollowrise.deeds import hollows, peaks
from hollowrise.errors import BadJob, DeedError, Full, Gone, HollowError, NoName, Taken
from hollowrise.flats import flat
from hollowrise.minors import minor_at, need_square
from hollowrise.pairings import how_many, nth_pairing, powers_of
from hollowrise.tables import great_of, small_of
from hollowrise.targets import need_target
from hollowrise.texts import field_text, fraction_text, rows_signed
from hollowrise.words import fraction_in_word, number_in_word

# Of each line's first word, what has to stand behind it.
KINDS = {
    "flat": ("name", "number", "number"),
    "drop": ("name",),
    "copy": ("name", "name"),
    "up": ("name", "number", "number"),
    "down": ("name", "number", "number"),
    "raise": ("name", "number", "number", "number"),
    "worth": ("name", "number", "number", "fraction"),
    "lade": ("name", "fraction", "form"),
    "rule": ("name", "number", "number"),
    "undo": (),
    "redo": (),
    "at": ("name", "number", "number", "number"),
    "sum": ("name", "number", "number", "number"),
    "count": ("name", "number", "number", "number"),
    "pairing": ("name", "number", "number", "number", "number"),
    "minor": ("name", "number", "number", "number"),
    "great": ("name", "number", "number", "number", "number"),
    "small": ("name", "number", "number", "number", "number"),
    "minds": ("name", "number", "number", "number"),
    "hollows": ("name",),
    "peaks": ("name",),
    "show": ("name",),
    "names": (),
}
JOBS = ("flat", "drop", "copy", "up", "down", "raise", "worth", "lade", "rule")


class Desk:
    """A BOOK, the desk's own, with answers to lines."""

    def __init__(self, book=None):
        if book is None:
            self._book = Book()
        elif isinstance(book, Book):
            self._book = book.twin()
        else:
            raise BadJob(None)

    def said(self, line):
        """The answer to a line."""
        told = _told_by(line)
        if told is None:
            return "bad line"
        word, parts = told
        try:
            return _answer_to(self._book, word, parts)
        except NoName:
            return "no name"
        except Taken:
            return "taken"
        except Full:
            return "full"
        except Gone:
            return "nothing"
        except (HollowError, DeedError) as refusal:
            return type(refusal).__name__.lower()

    def shown(self):
        """A copy of the BOOK as it stands."""
        return self._book.twin()


def _told_by(line):
    """(first word, a tuple of what stands behind it) of a line, None of what is none."""
    if type(line) is not str:
        return None
    words = line.split(" ")
    kinds = KINDS.get(words[0])
    if kinds is None:
        return None
    told = words[1:]
    if kinds[-1:] == ("form",):
        # Some FORMS are of two words.
        told = told[:2] + [" ".join(told[2:])]
    if len(told) != len(kinds):
        return None
    parts = [_part_told(kind, word) for kind, word in zip(kinds, told)]
    if None in parts:
        return None
    return (words[0], tuple(parts))


def _part_told(kind, word):
    """What a word tells where a NAME, a number, a FRACTION or a FORM has to stand, None where it doesn't."""
    if kind == "number":
        return number_in_word(word)
    if kind == "fraction":
        return fraction_in_word(word)
    if kind == "name":
        return word if is_name(word) else None
    return word if word in FORMS else None


def _answer_to(book, word, parts):
    """The answer to a good line, or as it is refused."""
    if word in JOBS:
        book.do((_deed_told(book, word, parts),))
        return "done"
    if word == "undo":
        book.undo()
        return "done"
    if word == "redo":
        book.redo()
        return "done"
    if word == "names":
        return _joined(list(book.names()), " ")
    if word == "at":
        name, x, y, height = parts
        return fraction_text(book.worth_at(name, x, y, height))
    if word == "sum":
        return fraction_text(book.worth_by_pairings(parts[0], parts[1:]))
    return _told_of(book.field_by_name(parts[0]), word, parts[1:])


def _deed_told(book, word, parts):
    """The DEED that a line tells, or as it is refused where that is due ahead of the DEED."""
    name = parts[0]
    if word == "flat":
        book.need_new(name)
        return ("put", name, flat(parts[1], parts[2]), (1, 1))
    if word == "raise":
        field = book.field_by_name(name)
        need_target(field, parts[1:])
        return ("bring", name, heights_of_target(field[0], parts[1:]))
    if word == "lade":
        return ("lade", name, parts[2], parts[1])
    if word == "rule":
        return ("rule", name, parts[1:])
    return (word,) + parts


def _told_of(field, word, parts):
    """What is asked of a FIELD alone, whatever its RULE is."""
    if word == "hollows":
        return _spots_text(hollows(field))
    if word == "peaks":
        return _spots_text(peaks(field))
    if word == "show":
        return field_text(field)
    target = parts[:3]
    if word == "count":
        return fraction_text((how_many(field, target), 1))
    if word == "minor":
        return fraction_text(minor_at(field, target))
    if word == "minds":
        return _spots_text(minded(field, target))
    if word == "pairing":
        powers = powers_of(field, target, nth_pairing(field, target, parts[3]))
        return ", ".join([f"{x} {y} {power}" for (x, y), power in powers])
    # What the TABLES ask of the TARGET comes ahead of what there is to the number.
    need_square(field, target)
    pairing = nth_pairing(field, target, parts[3])
    if word == "great":
        return _joined(rows_signed(great_of(field, target, pairing)), " ")
    return _joined(rows_signed(small_of(field, target, pairing)), " ")


def _spots_text(spots):
    """SPOTS as they are told."""
    return _joined([f"{x} {y}" for x, y in spots], ", ")


def _joined(words, between):
    """Texts one behind the other, or what stands for none."""
    if len(words) == 0:
        return "none"
    return between.join(words)
