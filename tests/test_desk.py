"""A desk: its lines, its answers, what it refuses and with which words."""

import inspect
import random
import unittest

from hollowrise.book import Book
from hollowrise.changes import FORMS, changed, laden, minded
from hollowrise.deeds import hollows, peaks, raised
from hollowrise.desk import Desk
from hollowrise.errors import BadJob
from hollowrise.fields import with_worth
from hollowrise.flats import flat
from hollowrise.letters import put_in, sum_of
from hollowrise.minors import minor_at
from hollowrise.pairings import how_many, nth_pairing, pairings, powers_of, worth_by_pairings
from hollowrise.reach import Held, worth_at
from hollowrise.tables import great_of, small_of, table_of
from hollowrise.targets import field_of
from hollowrise.texts import field_text, fraction_text, table_text
from tests.plain import outcome
from tests.samples import ODD_THINGS
from tests.test_changes import FAR, MANY

FLAT = flat(7, 7)
LETTERS = "abcdefghijklmnopqrstuvwxyz"
LONG = "1" + "0" * 1000


class Line(str):
    """A text that is none."""


def desk_of(*lines):
    desk = Desk()
    for line in lines:
        assert desk.said(line) == "done", line
    return desk


def of_field(field, rule=(1, 1)):
    book = Book()
    book.do((("put", "a", field, rule),))
    return Desk(book)


class Jobs(unittest.TestCase):
    def shown(self, desk, name="a"):
        book = desk.shown()
        return (book.field_by_name(name), book.rule_by_name(name))

    def test_flat(self):
        desk = Desk()
        self.assertEqual(desk.said(line="flat a 7 5"), "done")
        self.assertEqual(self.shown(desk), (flat(7, 5), (1, 1)))
        self.assertEqual(desk.shown().journal(), ((("put", "a", flat(7, 5), (1, 1)),),))
        for line, answer in [("flat b 12 1", "badorder"), ("flat b 1 0", "badorder"), ("flat b -1 1", "badorder"),
                             ("flat a 12 1", "taken"), ("flat a 1 1", "taken"), ("flat b 1", "bad line"),
                             ("flat B 1 1", "bad line"), ("flat b 1 1 1", "bad line"), ("flat b 1 x", "bad line"),
                             ("flat b 01 1", "bad line"), ("flat b 1 1/2", "bad line"), ("flat", "bad line"),
                             ("flat bbbbbbbbb 1 1", "bad line"), ("flat b 1 " + LONG, "bad line")]:
            self.assertEqual(desk.said(line), answer, line)
        self.assertEqual(desk.said("flat b 1 " + "9" * 1000), "badorder")
        self.assertEqual(desk.said("names"), "a")

    def test_drop_and_copy(self):
        desk = desk_of("flat a 3 3", "copy a b", "up b 1 1")
        self.assertEqual(self.shown(desk), (flat(3, 3), (1, 1)))
        self.assertEqual(self.shown(desk, "b"), (raised(flat(3, 3), (1, 1)), (1, 1)))
        for line, answer in [("copy c d", "no name"), ("copy a b", "taken"), ("copy a a", "taken"),
                             ("copy a", "bad line"),
                             ("copy a b c", "bad line"), ("copy a 1", "bad line"), ("drop c", "no name"),
                             ("drop", "bad line"),
                             ("drop a b", "bad line"), ("drop A", "bad line"), ("copy c a", "no name")]:
            self.assertEqual(desk.said(line), answer, line)
        self.assertEqual(desk.said("drop a"), "done")
        self.assertEqual(desk.said("names"), "b")

    def test_up_down_and_raise(self):
        desk = desk_of("flat a 7 7", "up a 3 3")
        self.assertEqual(self.shown(desk)[0], raised(FLAT, (3, 3)))
        for line, answer in [("up a 3 3", "nohollow"), ("down a 1 1", "nopeak"), ("up a 7 1", "badspot"),
                             ("down a 1 -1", "badspot"), ("up b 9 9", "no name"), ("down b 9 9", "no name"),
                             ("up a 1", "bad line"), ("down a 1 1 1", "bad line"), ("up a x 1", "bad line"),
                             ("down a 3 3", "done"), ("raise a 3 3 4", "done"), ("raise b 3 3 4", "no name"),
                             ("raise a 3 3 2", "badtarget"), ("raise a 3 3 6", "badtarget"),
                             ("raise a 3 3 5", "badtarget"),
                             ("raise a 9 9 0", "badtarget"), ("raise a 3 3", "bad line"),
                             ("raise a 3 3 4 1", "bad line")]:
            self.assertEqual(desk.said(line), answer, line)
        self.assertEqual(self.shown(desk)[0], field_of(FLAT, (3, 3, 4)))
        self.assertEqual(desk.shown().journal()[-1], (("bring", "a", field_of(FLAT, (3, 3, 4))[0]),))
        self.assertEqual(desk.said("raise a 3 3 4"), "done")
        desk = desk_of("flat a 7 7", "rule a 1 -1")
        self.assertEqual([desk.said("up a 3 3"), desk.said("raise a 3 3 4"), desk.said("raise a 3 3 2")],
                         ["nought"] * 3)
        self.assertEqual(self.shown(desk), (FLAT, (1, -1)))

    def test_worth_lade_and_rule(self):
        desk = desk_of("flat a 7 7", "worth a 2 3 -5/7", "rule a -9 4")
        self.assertEqual(self.shown(desk), (with_worth(FLAT, (2, 3), (-5, 7)), (-9, 4)))
        field = with_worth(FLAT, (2, 3), (-5, 7))
        for form in FORMS:
            self.assertEqual(desk.said(f"lade a 2/3 {form}"), "done")
            field = laden(field, form, (2, 3))
            self.assertEqual(self.shown(desk), (field, (-9, 4)))
        for line, answer in [("worth a 2 3 0", "badfraction"), ("worth a 7 3 1", "badspot"),
                             ("worth b 7 3 0", "no name"),
                             ("worth a 2 3 2/4", "bad line"), ("worth a 2 3 1/1", "bad line"),
                             ("worth a 2 3 x", "bad line"),
                             ("worth a 2 3", "bad line"), ("worth a 2 3 1 1", "bad line"),
                             ("worth a 2/3 3 1", "bad line"),
                             ("worth a 2 3 1/" + LONG, "bad line"), ("worth a 2 3 -0", "bad line"),
                             ("lade a 0 x", "badfraction"), ("lade b 0 x", "no name"), ("lade a 2 z", "bad line"),
                             ("lade a 2", "bad line"), ("lade a x 2", "bad line"), ("lade a 2 x y", "bad line"),
                             ("lade a 2 x  height", "bad line"), ("lade a 2 x height ", "bad line"),
                             ("lade a", "bad line"),
                             ("lade a 2 height x", "bad line"), ("lade a 2/4 x", "bad line"),
                             ("lade a 2 x height x", "bad line"),
                             ("lade a " + "9" * 1000 + " squares", "toogreat"), ("rule a 0 1", "badrule"),
                             ("rule a 1 10", "badrule"), ("rule b 0 1", "no name"), ("rule a 1", "bad line"),
                             ("rule a 1 1/2", "bad line"), ("rule a 1 1 1", "bad line"), ("lade  a 2 x", "bad line"),
                             ("lade", "bad line")]:
            self.assertEqual(desk.said(line), answer, line)
        self.assertEqual(self.shown(desk), (field, (-9, 4)))

    def test_undo_and_redo(self):
        desk = Desk()
        self.assertEqual([desk.said("undo"), desk.said("redo")], ["nothing", "nothing"])
        desk.said("flat a 3 3")
        desk.said("up a 1 1")
        self.assertEqual([desk.said("undo"), desk.said("undo"), desk.said("undo")], ["done", "done", "nothing"])
        self.assertEqual([desk.said("redo"), desk.said("redo"), desk.said("redo")], ["done", "done", "nothing"])
        self.assertEqual(self.shown(desk)[0], raised(flat(3, 3), (1, 1)))
        self.assertEqual([desk.said("undo"), desk.said("up a 0 0"), desk.said("redo")], ["done", "nohollow", "done"])
        self.assertEqual([desk.said("undo"), desk.said("rule a 1 2"), desk.said("redo")], ["done", "done", "nothing"])
        for line in ("undo a", "redo 1", "undo ", " undo", "Undo", "undo\n"):
            self.assertEqual(desk.said(line), "bad line")

    def test_full(self):
        desk = desk_of(*[f"flat {letter} 1 1" for letter in LETTERS[:20]])
        for line, answer in [("flat z 1 1", "full"), ("flat z 99 99", "full"), ("copy a z", "full"),
                             ("flat a 99 1", "taken"),
                             ("copy a b", "taken"), ("copy z y", "no name"), ("drop a", "done"), ("flat z 1 1", "done"),
                             ("flat y 1 1", "full")]:
            self.assertEqual(desk.said(line), answer, line)
        self.assertEqual(desk.said("names"), " ".join(LETTERS[1:20]) + " z")


class Asked(unittest.TestCase):
    def test_at_and_sum_by_the_rule(self):
        for rule in ((1, 1), (2, -3)):
            desk = desk_of("flat a 7 7", f"rule a {rule[0]} {rule[1]}", "worth a 2 3 -3/2")
            field = with_worth(FLAT, (2, 3), (-3, 2))
            for x, y, height in ((3, 3, 4), (3, 3, 2), (3, 3, 0), (2, 3, 3), (3, 3, -2), (2, 3, -1)):
                self.assertEqual(desk.said(f"at a {x} {y} {height}"),
                                 fraction_text(worth_at(field, x, y, height, rule=rule)))
                if height >= field[0][y][x]:
                    self.assertEqual(desk.said(f"sum a {x} {y} {height}"),
                                     fraction_text(worth_by_pairings(field, (x, y, height), rule=rule)))
        desk = desk_of("flat a 7 7", "rule a 1 -1")
        self.assertEqual([desk.said("at a 3 3 4"), desk.said("sum a 3 3 4")], ["nought", "0"])
        for line, answer in [("at a 3 3 5", "badtarget"), ("sum a 3 3 5", "badtarget"), ("sum a 3 3 -2", "badtarget"),
                             ("at a 9 3 4", "badtarget"), ("at b 3 3 4", "no name"), ("sum b 9 9 9", "no name"),
                             ("at a 3 3", "bad line"), ("sum a 3 3 4 4", "bad line"), ("at a 3 3 x", "bad line"),
                             ("at 3 3 4", "bad line"), ("sum", "bad line")]:
            self.assertEqual(desk.said(line), answer, line)

    def test_toogreat_of_an_answer_with_more_figures(self):
        most = "9" * 1000
        for one, short in (("9" * 500, True), ("3" + "1" * 499, True), ("3" + "1" * 500, False),
                           ("1" + "0" * 500, False)):
            desk = desk_of("flat a 3 3", f"worth a 1 0 {one}", f"worth a 1 2 {one}")
            told = desk.said("at a 1 1 2")
            self.assertEqual(told, str(int(one) ** 2 + 1) if int(one) ** 2 < 10 ** 1000 else "toogreat")
            self.assertIs(told != "toogreat", short)
            self.assertEqual(desk.said("sum a 1 1 2"), told)
        desk = desk_of("flat a 3 3", f"worth a 1 0 {most}")
        self.assertEqual(desk.said("at a 1 1 2"), "toogreat")
        self.assertEqual(desk.said("at a 1 0 1"), most)
        desk = desk_of("flat a 3 3", f"worth a 1 0 {most}", f"worth a 1 2 {most}")
        self.assertEqual(desk.said("minor a 1 1 2"), "toogreat")
        self.assertEqual(desk.said("up a 1 1"), "done")
        self.assertEqual(desk.said("show a"), "toogreat")
        self.assertEqual(desk.said("sum a 1 1 2"), "toogreat")
        desk.said("down a 1 1")
        self.assertEqual(desk.said("show a").split("\n")[4], "worths 1 " + most + " 1")

    def test_count_and_toogreat_of_what_goes_through_all(self):
        desk = of_field(MANY)
        x, y, n = FAR
        self.assertEqual(desk.said(f"count a {x} {y} {n}"), str(how_many(MANY, FAR)))
        self.assertEqual([desk.said(f"{word} a {x} {y} {n}") for word in ("sum", "minor")], ["toogreat", "badfield"])
        self.assertEqual(desk.said(f"pairing a {x} {y} {n} 0"), "toogreat")
        desk = desk_of("flat a 11 11")
        for word in ("pairing", "great", "small"):
            self.assertEqual(desk.said(f"{word} a 5 5 6 0"), "toogreat")
        self.assertEqual(desk.said("count a 5 5 6"), "32768")
        for line, answer in [("count a 5 5 7", "badtarget"), ("count b 5 5 6", "no name"), ("count a 5 5", "bad line"),
                             ("count a 5 5 0", "1")]:
            self.assertEqual(desk.said(line), answer, line)

    def test_pairing(self):
        desk = desk_of("flat a 7 7")
        self.assertEqual(desk.said("pairing a 3 3 2 1"), "2 3 1, 3 3 -1, 4 3 1")
        self.assertEqual(desk.said("pairing a 3 3 0 0"), "3 3 1")
        for number in range(64):
            powers = powers_of(FLAT, (3, 3, 4), nth_pairing(FLAT, (3, 3, 4), number))
            self.assertEqual(desk.said(f"pairing a 3 3 4 {number}"),
                             ", ".join(f"{x} {y} {power}" for (x, y), power in powers))
        for line, answer in [("pairing a 3 3 4 64", "badpairing"), ("pairing a 3 3 4 -1", "badpairing"),
                             ("pairing a 3 3 5 0", "badtarget"), ("pairing b 3 3 4 0", "no name"),
                             ("pairing a 3 3 4", "bad line"), ("pairing a 3 3 4 1/2", "bad line")]:
            self.assertEqual(desk.said(line), answer, line)

    def test_minor_great_and_small(self):
        desk = desk_of("flat a 7 7", "worth a 2 3 5/2")
        field = with_worth(FLAT, (2, 3), (5, 2))
        self.assertEqual(desk.said("minor a 3 3 2"), fraction_text(minor_at(field, (3, 3, 2))))
        for target in ((3, 3, 2), (3, 2, 3), (3, 3, 4), (3, 2, 1)):
            x, y, n = target
            for number, pairing in enumerate(pairings(field, target)):
                great = table_text(great_of(field, target, pairing)).replace("\n", " ")
                self.assertEqual(desk.said(f"great a {x} {y} {n} {number}"), great)
                small = small_of(field, target, pairing)
                self.assertEqual(desk.said(f"small a {x} {y} {n} {number}"),
                                 table_text(small).replace("\n", " ") if small else "none")
        self.assertEqual(desk.said("great a 3 3 2 0"), "0+ +0")
        self.assertEqual(desk.said("small a 3 2 1 0"), "none")
        for line, answer in [("minor a 3 3 0", "badtarget"), ("great a 3 3 0 0", "badtarget"),
                             ("small a 3 3 5 0", "badtarget"),
                             ("great a 3 3 2 2", "badpairing"), ("small a 3 3 2 -1", "badpairing"),
                             ("great a 3 3 0 9", "badtarget"), ("minor b 3 3 2", "no name"),
                             ("great b 3 3 2 0", "no name"),
                             ("minor a 3 3", "bad line"), ("great a 3 3 2", "bad line"),
                             ("small a 3 3 2 0 0", "bad line")]:
            self.assertEqual(desk.said(line), answer, line)
        desk.said("up a 3 3")
        for line in ("minor a 9 9 9", "great a 9 9 9 99", "small a 3 3 2 99", "minor a 3 3 2"):
            self.assertEqual(desk.said(line), "badfield")

    def test_spots(self):
        desk = desk_of("flat a 7 7", "up a 3 3")
        field = raised(FLAT, (3, 3))
        for word, told in (("hollows", hollows(field)), ("peaks", peaks(field)), ("minds", minded(field, (3, 2, 3)))):
            line = f"{word} a 3 2 3" if word == "minds" else f"{word} a"
            self.assertEqual(desk.said(line), ", ".join(f"{x} {y}" for x, y in told))
        self.assertEqual(desk.said("minds a 0 0 0"), "0 0")
        desk = desk_of("flat a 2 2", "flat b 3 3")
        self.assertEqual([desk.said("hollows a"), desk.said("peaks a"), desk.said("peaks b"), desk.said("hollows b")],
                         ["none", "none", "none", "1 1"])
        for line, answer in [("hollows c", "no name"), ("peaks c", "no name"), ("minds c 0 0 0", "no name"),
                             ("minds a 0 0 2", "badtarget"), ("hollows", "bad line"), ("peaks a b", "bad line"),
                             ("minds a 0 0", "bad line")]:
            self.assertEqual(desk.said(line), answer, line)

    def test_show_and_names(self):
        desk = Desk()
        self.assertEqual(desk.said("names"), "none")
        for line in ("flat b 2 3", "flat ab 1 1", "flat a 1 2"):
            desk.said(line)
        self.assertEqual(desk.said("names"), "a ab b")
        self.assertEqual(desk.said("show b"), field_text(flat(2, 3)))
        for line, answer in [("show c", "no name"), ("show", "bad line"), ("show a b", "bad line"),
                             ("names a", "bad line"),
                             ("names ", "bad line"), ("show  a", "bad line")]:
            self.assertEqual(desk.said(line), answer, line)


class Lines(unittest.TestCase):
    def test_bad_line_of_anything(self):
        desk = desk_of("flat a 3 3")
        for thing in ODD_THINGS + [b"names", ["names"], Line("names"), "", " ", "\n", "names\n", "hollow a",
                                   "FLAT b 1 1", "put",
                                   "bring a 1", "flat\tb 1 1", "flat b 1 1 ", " flat b 1 1", "flat  b 1 1",
                                   "up a 1 \u0661",
                                   "drop \u00e4", "drop a\n", "drop a\r", "names names", "show", "none", "at a 1 1 +1",
                                   "at a 1 1 00",
                                   "at a 1 1 " + LONG, "worth a 1 1 " + LONG, "pairing a 1 1 2 -" + LONG]:
            self.assertEqual(desk.said(thing), "bad line", thing)

    def test_each_word_with_more_or_fewer_parts(self):
        desk = desk_of("flat a 7 7")
        lines = ["flat b 3 3", "drop a", "copy a b", "up a 1 1", "down a 1 2", "raise a 3 3 2", "worth a 1 1 2",
                 "lade a 2 x",
                 "rule a 1 2", "undo", "redo", "at a 1 1 0", "sum a 1 1 0", "count a 1 1 0", "pairing a 1 1 0 0",
                 "minor a 3 3 2",
                 "great a 3 3 2 0", "small a 3 3 2 0", "minds a 3 3 2", "hollows a", "peaks a", "show a", "names"]
        ahead = desk.shown()
        for line in lines:
            words = line.split(" ")
            wrong = [line + " 1", line + " a", " ".join(words[:-1] + [""]), line + " "]
            if len(words) > 1:
                wrong.append(" ".join(words[:-1]))
            for number in range(1, len(words)):
                wrong += [" ".join(words[:number] + [other] + words[number + 1:]) for other in ("A", "1x", "", "1.0",
                                                                                                "!")]
            for other in wrong:
                if other not in lines:
                    self.assertEqual(desk.said(other), "bad line", other)
        self.assertEqual(desk.shown(), ahead)
        self.assertEqual(desk.shown().journal(), ahead.journal())
        for line in lines:
            self.assertNotEqual(Desk(ahead).said(line), "bad line")

    def test_what_is_refused_changes_nothing(self):
        desk = desk_of("flat a 7 7", "up a 3 3", "undo")
        ahead = desk.shown()
        for line in ("flat a 3 3", "up a 0 0", "x", "drop b", "rule a 0 0", "lade a 0 x", "worth a 9 9 1",
                     "raise a 3 3 9", "copy a a",
                     "at a 1 1 9", "show b"):
            desk.said(line)
            self.assertEqual((desk.shown(), desk.shown().journal()), (ahead, ahead.journal()))
        self.assertEqual(desk.said("redo"), "done")


class Desks(unittest.TestCase):
    def test_of_a_book_it_copies(self):
        book = Book()
        for job in ((("put", "a", FLAT, (2, 3)),), (("up", "a", 3, 3),)):
            book.do(job)
        book.undo()
        for desk in (Desk(book), Desk(book=book)):
            self.assertEqual(desk.shown(), book)
            self.assertEqual(desk.shown().journal(), book.journal())
            self.assertEqual(desk.said("redo"), "done")
            self.assertEqual(book.field_by_name("a"), FLAT)
            self.assertEqual([desk.said("undo"), desk.said("undo"), desk.said("undo")], ["done", "done", "nothing"])
            self.assertEqual(len(book), 1)
        desk = Desk(book)
        book.do((("drop", "a"),))
        self.assertEqual(desk.said("names"), "a")

    def test_shown_is_a_copy(self):
        desk = desk_of("flat a 3 3", "up a 1 1", "undo")
        shown = desk.shown()
        shown.do((("drop", "a"),))
        self.assertEqual(desk.said("names"), "a")
        self.assertEqual(desk.said("redo"), "done")
        kept = desk.shown()
        desk.said("drop a")
        self.assertEqual(kept.names(), ("a",))
        self.assertIs(type(kept), Book)

    def test_bad_job_of_anything_else(self):
        for thing in ODD_THINGS + [Book, Desk(), {"a": FLAT}, ((("put", "a", FLAT, (1, 1)),),)]:
            if thing is not None:
                self.assertEqual(outcome(Desk, thing), ("BadJob", {"number": None}))
        self.assertRaises(BadJob, Desk, book=1)
        self.assertEqual(Desk(None).said("names"), "none")
        self.assertEqual(Desk().shown(), Book())
        self.assertEqual(list(inspect.signature(Desk).parameters), ["book"])
        self.assertEqual(list(inspect.signature(Desk.said).parameters), ["self", "line"])
        self.assertEqual(list(inspect.signature(Desk.shown).parameters), ["self"])
        self.assertTrue({"said", "shown"} <= set(vars(Desk)))


class Whole(unittest.TestCase):
    def test_the_same_worth_by_all_ways(self):
        """By deeds, by the sum of T3, by a held field, by letters, by parts, by a book, by a desk."""
        chance = random.Random("whole")
        for number in range(12):
            field = FLAT
            rule = ((1, 1), (2, 3), (3, -1))[number % 3]
            for _ in range(10):
                spot = (chance.randrange(7), chance.randrange(7))
                field = with_worth(field, spot, (chance.choice([2, 3, 5, -7]), 1))
            target = ((3, 3, 4), (3, 3, 2), (2, 3, 3), (3, 2, 3))[number % 4]
            x, y, n = target
            told = outcome(worth_at, field, x, y, n, rule=rule)
            if told[0] != "told":
                continue
            worth = told[1]
            self.assertEqual(field_of(field, target, rule=rule)[1][y][x], worth)
            self.assertEqual(worth_by_pairings(field, target, rule=rule), worth)
            self.assertEqual(Held(field, rule=rule).worth_at(x, y, n), worth)
            self.assertEqual(put_in(field, sum_of(field, target, rule=rule)), worth)
            self.assertEqual(changed(field, target, (3, 3), field[1][3][3], rule=rule), worth)
            desk = of_field(field, rule)
            self.assertEqual(desk.shown().worth_at("a", x, y, n), worth)
            self.assertEqual(desk.said(f"at a {x} {y} {n}"), fraction_text(worth))
            self.assertEqual(desk.said(f"sum a {x} {y} {n}"), fraction_text(worth))
            self.assertEqual(desk.said(f"raise a {x} {y} {n}"), "done")
            self.assertEqual(desk.said(f"at a {x} {y} {n}"), fraction_text(worth))
            self.assertEqual(desk.shown().field_by_name("a"), field_of(field, target, rule=rule))

    def test_led_by_lines_it_shows_what_the_functions_tell(self):
        desk = desk_of("flat a 7 7", "lade a 3 xy", "rule a 2 1", "copy a b", "raise b 3 3 4", "worth a 3 3 1/9",
                       "drop a", "undo")
        book = Book()
        for deed in (("put", "a", FLAT, (1, 1)), ("lade", "a", "xy", (3, 1)), ("rule", "a", (2, 1)), ("copy", "a", "b"),
                     ("bring", "b", field_of(FLAT, (3, 3, 4))[0]), ("worth", "a", 3, 3, (1, 9))):
            book.do((deed,))
        self.assertEqual(desk.shown(), book)
        self.assertEqual(desk.shown().journal(), book.journal())
        self.assertEqual(desk.said("show b"), field_text(book.field_by_name("b")))
        self.assertEqual(table_of(((0, 1, 2), (1, 0, 1), (2, 1, 0))), ((1, 0), (0, 1)))


if __name__ == "__main__":
    unittest.main()
