"""What is written as texts, and read from these."""

import itertools
import random
import unittest
from math import gcd

from hollowrise.errors import BadFraction, BadText
from hollowrise.fields import is_field
from hollowrise.figures import is_long
from hollowrise.flats import flat
from hollowrise.heights import highest
from hollowrise.pairings import pairings
from hollowrise.rows import led
from hollowrise.tables import all_tables, need_table
from hollowrise.texts import (
    field_in, field_text, fraction_in, fraction_text, pairing_in, pairing_text, row_in, row_text, table_in, table_text)
from tests.plain import ONE, outcome
from tests.plain_webs import field_on, some_targets, targets_of
from tests.samples import ODD_THINGS, SIZES, flat_field, place_of, random_field, steep_field
from tests.test_fields import NO_FIELDS
from tests.test_tables import SEVEN, no_tables, tables_by_hand
from tests.test_targets import no_targets

FLAT = flat(3, 3)
FLAT_TEXT = """field 3 3
heights 0 1 0
heights 1 0 1
heights 0 1 0
worths 1 1 1
worths 1 1 1
worths 1 1 1"""
ODD = (((0, 1, 2), (-1, 0, 1)), ((ONE, (-3, 2), (4, 1)), ((1, 7), (-9, 1), ONE)))
ODD_TEXT = """field 3 2
heights 0 1 2
heights -1 0 1
worths 1 -3/2 4
worths 1/7 -9 1"""
NO_TEXTS = [thing for thing in ODD_THINGS if type(thing) is not str] + [["1"], ("1",), b"1"]


class Text(str):
    """A text that is none."""


def line_of(reading, *things):
    """The line of the BadText with which a text is refused, None where it is read."""
    try:
        reading(*things)
    except BadText as refusal:
        return refusal.line
    return None


def spoiled(text):
    """Texts like one that none of the readings may tell the same of, each with None or the line that is to be told."""
    lines = text.split("\n")
    chance = random.Random(text)
    found = [(text + "\n", len(lines) + 1), ("\n" + text, 1), (text + " ", len(lines)), (" " + text, 1),
             (text + "\n\n", len(lines) + 1), (text + "\n" + lines[-1] + " 1", len(lines) + 1),
             (text.replace("\n", "\r\n") + "\r", 1), (text.replace("\n", "\n\n", 1), 2 if len(lines) > 1 else None)]
    for number in chance.sample(range(len(lines)), min(4, len(lines))):
        line = lines[number]
        for other in (line + " 1", line + " x", line.replace(" ", "  ", 1), line.replace(" ", "\t", 1), " " + line,
                      line + " ", line.upper(), "x" + line, "", line + "\x00", line.rpartition(" ")[0],
                      line.replace(" ", " 0", 1), line.replace(" ", " +", 1), line.replace(" ", " -0", 1)):
            if other != line:
                found.append(("\n".join(lines[:number] + [other] + lines[number + 1:]), number + 1))
    return [(other, line) for other, line in found if line is not None and other != text]


class Fractions(unittest.TestCase):
    def test_by_hand(self):
        for one, text in (((0, 1), "0"), ((1, 1), "1"), ((-1, 1), "-1"), ((3, 4), "3/4"), ((-30, 41), "-30/41"),
                          ((10 ** 60, 1), "1" + 60 * "0"), ((1, 10), "1/10")):
            self.assertEqual(fraction_text(fraction=one), text)
            self.assertEqual(fraction_in(text=text), one)

    def test_there_and_back(self):
        for above, below in itertools.product(range(-12, 13), range(1, 12)):
            if gcd(above, below) == 1:
                text = fraction_text((above, below))
                self.assertEqual(text, f"{above}/{below}" if below > 1 else str(above))
                self.assertEqual(fraction_in(text), (above, below))
            else:
                self.assertEqual(line_of(fraction_in, f"{above}/{below}"), 1)

    def test_a_thousand_figures(self):
        most = 10 ** 1000 - 1
        for one in ((most, 1), (-most, 1), (1, most), (-most, most - 1), (10 ** 999, 1)):
            self.assertEqual(fraction_in(fraction_text(one)), one)
        for one in ((most + 1, 1), (-most - 1, 1), (1, most + 1), (most + 2, most), (10 ** 4000, 1), (3, 10 ** 2000)):
            self.assertEqual(outcome(fraction_text, one), ("TooGreat", {"most": 1000}))
        for text in ("1" + "0" * 1000, "-1" + "0" * 1000, "1/" + "3" * 1001, "0" * 1001, "9" * 1001 + "/2"):
            self.assertEqual(line_of(fraction_in, text), 1)

    def test_is_long(self):
        for number in (0, 1, 10 ** 999, 10 ** 1000 - 1, 2 ** 3321, 2 ** 3321 - 1):
            self.assertIs(is_long(number), False)
            self.assertIs(is_long(-number), False)
        for number in (10 ** 1000, 2 ** 3322 - 1, 2 ** 3322, 2 ** 3323, 10 ** 5000, 10 ** 1000 + 1):
            self.assertIs(is_long(number), True)
            self.assertIs(is_long(-number), True)

    def test_bad_fraction_of_anything(self):
        for thing in ODD_THINGS + [(2, 4), (1, 0), (1, -1), (True, 1), "1", [1, 2]]:
            if thing != (1, 2) or type(thing) is not tuple:
                self.assertEqual(outcome(fraction_text, thing), ("BadFraction", {}))
        self.assertRaises(BadFraction, fraction_text, (2, 2))

    def test_bad_text(self):
        for text in ("", " ", "-", "/", "1/", "/2", "-/2", "00", "01", "-0", "-01", "0/1", "0/2", "2/1", "1/1", "2/4",
                     "1/-2",
                     "-1/-2", "+1", "1 ", " 1", "1/02", "1/2/3", "1//2", "1.0", "1e3", "0x1", "1_0", "\u0661", "\u00b2",
                     "1/\u0662", "x", "--1", "1-", "1\t", "\r", "1,2", "1/0", "\n1", "1 /2", "1\x00", "-\n1", "\uff11"):
            self.assertEqual(line_of(fraction_in, text), 1, text)
        for text in ("1\n", "1\n2", "1/2\n\n", "-3\n1/2", "0\n\n"):
            self.assertEqual(line_of(fraction_in, text), 2, text)
        for thing in NO_TEXTS + [Text("1")]:
            self.assertEqual(outcome(fraction_in, thing), ("BadText", {"line": 0}))


class Fields(unittest.TestCase):
    def test_by_hand(self):
        self.assertEqual(field_text(field=FLAT), FLAT_TEXT)
        self.assertEqual(field_in(text=FLAT_TEXT), FLAT)
        self.assertEqual(field_text(ODD), ODD_TEXT)
        self.assertEqual(field_in(ODD_TEXT), ODD)
        self.assertEqual(field_text((((0,),), ((ONE,),))), "field 1 1\nheights 0\nworths 1")

    def test_there_and_back(self):
        for wide, high in SIZES[::3]:
            for field in (flat_field(wide, high), random_field(wide, high, "text"), steep_field(wide, high, 34)):
                self.assertEqual(field_in(field_text(field)), field)

    def test_too_great_of_more_figures(self):
        for worth, refused in ((10 ** 999, False), (10 ** 1000 - 1, False), (10 ** 1000, True), (-10 ** 1000, True)):
            for one in ((worth, 1), (1, abs(worth))):
                field = (((0, 1),), ((ONE, one),))
                self.assertEqual(outcome(field_text, field)[0], "TooGreat" if refused else "told")
        long_one = led((flat_field(5, 5)[0], ((((10 ** 999, 1),) * 5,) * 5)), highest(flat_field(5, 5)[0]), rule=(3, 1))
        self.assertEqual(outcome(field_text, long_one)[0], "told" if max(
            worth[0] for row in long_one[1] for worth in row) < 10 ** 1000 else "TooGreat")

    def test_spoiled(self):
        for text in (FLAT_TEXT, ODD_TEXT, field_text(random_field(4, 5, "spoiled"))):
            for other, line in spoiled(text):
                self.assertEqual(line_of(field_in, other), line, other)

    def test_what_lacks_and_what_is_there_twice(self):
        lines = ODD_TEXT.split("\n")
        for many in range(len(lines)):
            self.assertEqual(line_of(field_in, "\n".join(lines[:many])), max(many + 1, 1) if many else 1)
        for number in range(len(lines)):
            left = "\n".join(lines[:number] + lines[number + 1:])
            twice = "\n".join(lines[:number + 1] + lines[number:])
            self.assertEqual(line_of(field_in, left), {0: 1, 1: 2, 2: 3, 3: 5, 4: 5}[number])
            self.assertEqual(line_of(field_in, twice), {0: 2, 1: 3, 2: 4, 3: 6, 4: 6}[number])

    def test_lines_that_cannot_stand(self):
        lines = FLAT_TEXT.split("\n")
        for number, line in [
                (1, "field 0 3"), (1, "field 12 3"), (1, "field 3 12"), (1, "field 3 0"), (1, "field -3 3"),
                (1, "field 3"),
                (1, "fields 3 3"), (1, "field 3 3 3"), (1, "field 3 x"), (2, "heights 1 0 1"), (2, "heights 0 1"),
                (2, "heights 0 1 0 1"), (2, "heights 0 3 0"), (2, "heights 0 1 1"), (2, "heights 0 -1 -3"),
                (2, "heights 36 35 36"), (2, "heights -36 -35 -36"), (2, "heights 0 1/2 0"), (3, "heights 1 2 3"),
                (3, "heights -3 -2 -1"), (3, "heights 3 2 1"), (4, "heights 2 1 2"), (4, "heights 0 1 0 "),
                (3, "heights 1 0 -1"), (5, "worths 1 0 1"), (5, "worths 1 2/4 1"), (5, "worths 1 1/1 1"),
                (5, "worths 1 1"),
                (5, "worths 1 1 1 1"), (6, "heights 1 0 1"), (7, "worths 1 -0 1"), (5, "worths 1 1/0 1"),
                (6, "worth 1 1 1"),
                (7, "worths 1 1 " + "1" * 1001), (5, "worths 1 1/-2 1"), (7, "worths a b c"), (2, "height 0 1 0")]:
            text = "\n".join(lines[:number - 1] + [line] + lines[number:])
            if (number, line) in [(3, "heights 1 0 -1"), (4, "heights 2 1 2")]:
                continue
            self.assertEqual(line_of(field_in, text), number, line)
        self.assertEqual(line_of(field_in, "field 3 3\nheights 34 35 34\nheights 35 36 35\nheights 36 35 34"), 4)
        self.assertEqual(line_of(field_in, "field 3 3\nheights 34 35 34\nheights 35 36 35\nheights 34 35 36"), 4)
        self.assertEqual(line_of(field_in, "field 3 3\nheights -34 -35 -34\nheights -35 -36 -35\nheights -34 -35 -34"),
                         5)
        self.assertEqual(line_of(field_in, "field 2 3\nheights 34 35\nheights 35 36"), 3)
        self.assertEqual(line_of(field_in, "field 5 3\nheights 34 35 36 35 34"), 2)
        steep = "field 3 5\nheights 34 35 34\nheights 35 36 35\nheights "
        self.assertEqual([line_of(field_in, steep + row) for row in ("36 35 34", "34 35 36", "34 37 34", "34 35 34")],
                         [4, 4, 4, 5])
        self.assertEqual(line_of(field_in, "field 3 2\nheights 34 35 34\nheights 35 36 35"), 3)
        # Beyond 35 an INNER SPOT may stand.
        field = steep_field(5, 5, 34)
        self.assertGreater(max(max(row) for row in field[0]), 35)
        self.assertEqual(field_in(field_text(field)), field)

    def test_all_small_texts_against_the_words(self):
        chance = random.Random("fields by chance")
        read = 0
        for _ in range(3000):
            wide, high = chance.choice([(1, 1), (1, 2), (2, 1), (2, 2), (3, 3)])
            numbers = [chance.choice(["0", "1", "-1", "2"]) for _ in range(wide * high)]
            if chance.random() < .7:
                numbers = [str((x + y) % 2) for y in range(high) for x in range(wide)]
                numbers[chance.randrange(len(numbers))] = chance.choice(["0", "1", "2", "-1"])
            rows = tuple(tuple(map(int, numbers[y * wide:(y + 1) * wide])) for y in range(high))
            text = "\n".join([f"field {wide} {high}"] + ["heights " + " ".join(map(str, row)) for row in rows]
                             + ["worths" + " 1" * wide] * high)
            field = (rows, ((ONE,) * wide,) * high)
            line = line_of(field_in, text)
            self.assertEqual(line is None, place_of(field) == "")
            if line is None:
                self.assertEqual(field_in(text), field)
                self.assertIs(is_field(field_in(text)), True)
                read += 1
            else:
                # What comes behind that line doesn't matter, and up to the line ahead all is right.
                lines = text.split("\n")
                self.assertEqual(line_of(field_in, "\n".join(lines[:line])), line)
                self.assertEqual(line_of(field_in, "\n".join(lines[:line - 1])), line)
        self.assertGreater(read, 300)

    def test_refused(self):
        for place, thing in NO_FIELDS:
            self.assertEqual(outcome(field_text, thing), ("BadField", {"place": place}))
        for thing in NO_TEXTS + [Text(FLAT_TEXT)]:
            self.assertEqual(outcome(field_in, thing), ("BadText", {"line": 0}))
        self.assertEqual(line_of(field_in, ""), 1)


class Rows(unittest.TestCase):
    def test_by_hand(self):
        row = (("up", 1, 2), ("down", 10, 0))
        self.assertEqual(row_text(row=row), "up 1 2\ndown 10 0")
        self.assertEqual(row_in(text="up 1 2\ndown 10 0"), row)
        self.assertEqual((row_text(()), row_in("")), ("", ()))

    def test_there_and_back(self):
        chance = random.Random("rows")
        for many in range(30):
            row = tuple((chance.choice(["up", "down"]), chance.randrange(11),
                         chance.randrange(11)) for _ in range(many))
            self.assertEqual(row_in(row_text(row)), row)

    def test_refused(self):
        for number, thing in [(None, None), (None, []), (None, "up 1 1"), (0, (None,)),
                              (1, (("up", 1, 1), ("left", 1, 1))),
                              (0, (("up", 11, 0),)), (0, (("up", -1, 0),)), (0, (("up", True, 0),)), (0, (("up", 1),))]:
            self.assertEqual(outcome(row_text, thing), ("BadRow", {"number": number}))
        for text in ("up 1 2", "up 1 2\ndown 10 0\nup 0 0"):
            for other, line in spoiled(text):
                self.assertEqual(line_of(row_in, other), None if other == "" else line, other)
        for text, line in [("\n", 1), ("up 1 1\n", 2), ("left 1 1", 1), ("up 11 1", 1), ("up 1 11", 1), ("up -1 1", 1),
                           ("up 1 1\n\nup 1 1", 2), ("up 1 1\nup 1", 2), ("up 1 1 1", 1), (" ", 1), ("up", 1),
                           ("up 1 01", 1),
                           ("Up 1 1", 1), ("down 1 1\nup x 1", 2), ("1 1", 1), (" 1 1", 1), ("up 1 1/2", 1)]:
            self.assertEqual(line_of(row_in, text), line, text)
        for thing in NO_TEXTS + [Text("")]:
            self.assertEqual(outcome(row_in, thing), ("BadText", {"line": 0}))


class Pairings(unittest.TestCase):
    def test_by_hand(self):
        text = "target 1 1 2\ntie 0 1 1 1\ntie 1 1 2 1"
        pairing = (((0, 1), (1, 1)), ((1, 1), (2, 1)))
        self.assertEqual(pairing_text(field=FLAT, target=(1, 1, 2), pairing=pairing), text)
        self.assertEqual(pairing_in(field=FLAT, text=text), ((1, 1, 2), pairing))
        self.assertEqual(pairing_in(FLAT, "target 0 1 1"), ((0, 1, 1), ()))

    def test_there_and_back(self):
        for heights, target in some_targets():
            field = field_on(heights)
            for pairing in pairings(field, target)[::29]:
                text = pairing_text(field, target, pairing)
                self.assertEqual(len(text.split("\n")), 1 + len(pairing))
                self.assertEqual(pairing_in(field, text), (target, pairing))

    def test_each_tie_that_is_wrong(self):
        field = flat_field(5, 5)
        target = (2, 2, 2)
        level, upright = (pairing_text(field, target, pairing).split("\n") for pairing in pairings(field, target))
        for lines, line in [
                (level[:2], 3), (level[:1], 2), (level + level[2:], 4), (level[:2] + level[1:2], 3),
                (level[:1] + level[:0:-1], 3),
                (level[:2] + upright[1:2], 3), (level[:1] + ["tie 0 0 0 1"], 2), (level[:1] + ["tie 2 2 1 2"], 2),
                (level + ["tie 2 1 2 2"], 4), (level + [""], 4), (level[:2] + [""], 3), (level[:2] + ["", level[2]], 3),
                (level[:1] + ["tie 1 2 2"] + level[2:], 2), (level[:1] + ["tie 1 2 2 2 2"], 2),
                (level[:1] + ["tie a 2 2 2"], 2),
                (level[:2] + ["tie 99 2 2 2"], 3), (level[:2] + ["ties 2 2 3 2"], 3), (["target 2 2 4"], 1),
                (["target 2 2 3"], 1),
                (["target 9 2 2"], 1), (["target 2 2"], 1), (["target 2 2 2 2"], 1), (["targets 2 2 2"] + level[1:], 1),
                (level[1:], 1), ([""], 1), (["", ""], 1), (["target 2 2 0", ""], 2), (["target 2 2 0"] + level[1:], 2),
                (level[:1] + ["target 2 2 2"] + level[1:], 2)]:
            self.assertEqual(line_of(pairing_in, field, "\n".join(lines)), line, lines)
        for thing in no_targets((2, 2, 2)):
            if type(thing) is tuple and len(thing) == 3 and all(type(part) is int for part in thing):
                text = "target " + " ".join(map(str, thing))
                self.assertEqual(line_of(pairing_in, field, text), 1)

    def test_each_line_of_a_long_one(self):
        heights, target = max(some_targets(), key=lambda told: told[1][2] - told[0][told[1][1]][told[1][0]])
        field = field_on(heights)
        pairing = pairings(field, target)[-1]
        text = pairing_text(field, target, pairing)
        for other, line in spoiled(text):
            self.assertEqual(line_of(pairing_in, field, other), line, other)
        lines = text.split("\n")
        for many in range(1, len(lines)):
            self.assertEqual(line_of(pairing_in, field, "\n".join(lines[:many])), many + 1)

    def test_refused(self):
        for place, thing in NO_FIELDS:
            self.assertEqual(outcome(pairing_in, thing, None), ("BadField", {"place": place}))
            self.assertEqual(outcome(pairing_text, thing, None, None), ("BadField", {"place": place}))
        for thing in no_targets((1, 1, 2)):
            self.assertEqual(outcome(pairing_text, FLAT, thing, None), ("BadTarget", {}))
        self.assertEqual(outcome(pairing_text, FLAT, (1, 1, 2), None), ("BadPairing", {"number": None}))
        self.assertEqual(outcome(pairing_text, FLAT, (1, 1, 2), ()), ("BadPairing", {"number": 0}))
        for thing in NO_TEXTS + [Text("target 0 1 1")]:
            self.assertEqual(outcome(pairing_in, FLAT, thing), ("BadText", {"line": 0}))
        self.assertEqual(line_of(pairing_in, FLAT, ""), 1)
        self.assertEqual(len(targets_of(FLAT[0])), 10)


class Tables(unittest.TestCase):
    def test_by_hand(self):
        table = ((0, 1, 0), (1, -1, 1), (0, 1, 0))
        self.assertEqual(table_text(table=table), "0+0\n+-+\n0+0")
        self.assertEqual(table_in(text="0+0\n+-+\n0+0"), table)
        self.assertEqual(table_in("+"), ((1,),))

    def test_there_and_back(self):
        for table in [table for size in range(1, 5) for table in all_tables(size)] + [SEVEN]:
            self.assertEqual(table_in(table_text(table)), table)
        self.assertIsNone(need_table(table_in(table_text(SEVEN))))

    def test_all_texts_of_3_rows(self):
        starts = {tuple(table[:many]) for table in tables_by_hand(3) for many in range(4)}
        rows = list(itertools.product((0, 1, -1), repeat=3))
        for table in itertools.product(rows, rows, rows):
            text = "\n".join("".join("0+-"[number] for number in row) for row in table)
            line = next((many for many in range(1, 4) if table[:many] not in starts), None)
            self.assertEqual(line_of(table_in, text), line)

    def test_refused(self):
        for place, thing in no_tables():
            self.assertEqual(outcome(table_text, thing), ("BadTable", {"place": place}))
        for text, line in [("", 1), ("\n", 1), ("0", 1), ("-", 1), ("+\n", 2), ("+\n+", 2), ("+0", 2), ("+0\n", 2),
                           ("+0\n+0", 2),
                           ("+0\n0+\n", 3), ("+0\n0+\n0+", 3), ("+0\n0+0", 2), ("+0\n+", 2), ("+0 \n0+ ", 1),
                           ("+0\n0+ ", 2),
                           ("+o\n0+", 1), ("++\n00", 1), ("0+\n+1", 2), ("+0000000", 1), ("00000000+", 1), ("1", 1),
                           ("+0\n-+", 2),
                           ("0+0\n+-+\n+00", 3), ("0+0\n0+0\n", 2), ("0+0\n+-+", 3), ("+ 0\n0 +", 1), ("0+0\n+--\n", 2),
                           ("+0\n\n0+", 2), ("0+0\n+-0", 2)]:
            self.assertEqual(line_of(table_in, text), line, text)
        for thing in NO_TEXTS + [Text("+")]:
            self.assertEqual(outcome(table_in, thing), ("BadText", {"line": 0}))


if __name__ == "__main__":
    unittest.main()
