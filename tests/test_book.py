"""A BOOK of FIELDS by NAMES, its JOBS, and what is undone and done again."""

import copy
import inspect
import random
import unittest

from hollowrise.book import MOST_NAMES, Book
from hollowrise.changes import laden
from hollowrise.deeds import lowered, raised
from hollowrise.errors import BadField, BadRule, Gone
from hollowrise.fields import with_worth
from hollowrise.flats import flat
from hollowrise.heights import highest
from hollowrise.pairings import worth_by_pairings
from hollowrise.reach import worth_at
from hollowrise.rows import led
from tests.plain import outcome
from tests.samples import ODD_THINGS, flat_field, random_field
from tests.test_changes import FAR, MANY
from tests.test_deeds import NO_RULES
from tests.test_fields import NO_FIELDS, no_spots
from tests.test_heights import no_heights
from tests.test_targets import no_targets

FIELD = flat_field(5, 5)
PUT = ("put", "a", FIELD, (2, 3))
LETTERS = "abcdefghijklmnopqrstuvwxyz"


class Name(str):
    """A text that is none."""


class Job(tuple):
    """A tuple that is none."""


NO_NAMES = [thing for thing in ODD_THINGS if thing not in ("text", "ab")] + [
    "abcdefghi", "A", "aB", "a1", "a b", "a\n", " a", "\u00e4", "\u0430", "a-", "_", Name("a"), ("a",), b"a", "1",
    "\u01c6"]
NO_DEEDS = [thing for thing in ODD_THINGS] + [
    ("put", "a", FIELD), PUT + (1,), ("drop",), ("drop", "a", "b"), ("copy", "a"), ("copy", "a", "B"),
    ("copy", "a", None),
    ("copy", "", "b"), ("up", "a", 1), ("up", "a", 1, 1, 1), ("Up", "a", 1, 1), ("down", "a"), ("bring", "a"),
    ("bring", "a", 1, 1), ("worth", "a", 1, 1), ("lade", "a", "x"), ("lade", "a", "x", (1, 2), 1), ("rule", "a"),
    ("rule", "a", 1, 1), ["drop", "a"], Job(("drop", "a")), (Name("drop"), "a"), ("undo",), ("", "a"), (None, "a"),
    ("drop", Name("a")), ("drop", ["a"]), (["drop"], "a"), ("show", "a"), ("up", ("a",), 1, 1)]


def book_of(*jobs):
    book = Book()
    for job in jobs:
        book.do(job)
    return book


def all_told(book):
    """All that a BOOK tells."""
    return (book.names(), [(book.field_by_name(name), book.rule_by_name(name)) for name in book.names()],
            book.journal(),
            len(book))


def twenty():
    return book_of(*[(("put", letter, flat(1, 1), (1, 1)),) for letter in LETTERS[:20]])


class Deeds(unittest.TestCase):
    def setUp(self):
        self.book = book_of((PUT,))

    def test_put(self):
        self.assertEqual(self.book.names(), ("a",))
        self.assertEqual(self.book.field_by_name(name="a"), FIELD)
        self.assertEqual(self.book.rule_by_name(name="a"), (2, 3))
        self.assertEqual(len(self.book), 1)
        self.assertIsNone(self.book.do(job=(("put", "abcdefgh", flat(1, 1), (-9, 9)),)))
        self.assertEqual(self.book.names(), ("a", "abcdefgh"))
        self.assertEqual(outcome(self.book.do, (("put", "a", None, None),)), ("Taken", {"name": "a"}))
        for place, thing in NO_FIELDS:
            self.assertEqual(outcome(self.book.do, (("put", "b", thing, None),)), ("BadField", {"place": place}))
        for rule in NO_RULES:
            self.assertEqual(outcome(self.book.do, (("put", "b", FIELD, rule),)), ("BadRule", {}))

    def test_drop(self):
        self.book.do((("drop", "a"),))
        self.assertEqual((self.book.names(), len(self.book)), ((), 0))
        self.assertEqual(outcome(self.book.do, (("drop", "a"),)), ("NoName", {"name": "a"}))

    def test_copy(self):
        self.book.do((("copy", "a", "b"),))
        self.book.do((("up", "b", 2, 2),))
        self.assertEqual(self.book.field_by_name("a"), FIELD)
        self.assertEqual(self.book.field_by_name("b"), raised(FIELD, (2, 2), rule=(2, 3)))
        self.assertEqual(self.book.rule_by_name("b"), (2, 3))
        self.assertEqual(outcome(self.book.do, (("copy", "c", "a"),)), ("NoName", {"name": "c"}))
        self.assertEqual(outcome(self.book.do, (("copy", "a", "b"),)), ("Taken", {"name": "b"}))
        self.assertEqual(outcome(self.book.do, (("copy", "a", "a"),)), ("Taken", {"name": "a"}))

    def test_up_and_down(self):
        self.book.do((("up", "a", 1, 1),))
        self.assertEqual(self.book.field_by_name("a"), raised(FIELD, (1, 1), rule=(2, 3)))
        self.assertEqual(outcome(self.book.do, (("up", "a", 1, 1),)), ("NoHollow", {"spot": (1, 1)}))
        self.book.do((("down", "a", 1, 1),))
        self.assertEqual(self.book.field_by_name("a"), FIELD)
        self.book.do((("down", "a", 1, 2),))
        self.assertEqual(self.book.field_by_name("a"), lowered(FIELD, (1, 2), rule=(2, 3)))
        for word in ("up", "down"):
            self.assertEqual(outcome(self.book.do, ((word, "b", None, None),)), ("NoName", {"name": "b"}))
            for thing in no_spots(5, 5):
                if type(thing) is tuple and len(thing) == 2:
                    self.assertEqual(outcome(self.book.do, ((word, "a") + thing,)), ("BadSpot", {}))
        self.assertEqual(outcome(self.book.do, (("down", "a", 1, 2),)), ("NoPeak", {"spot": (1, 2)}))
        book = book_of((("put", "a", flat(3, 3), (1, -1)),))
        self.assertEqual(outcome(book.do, (("up", "a", 1, 1),)), ("Nought", {"spot": (1, 1)}))

    def test_bring(self):
        heights = highest(FIELD[0])
        self.book.do((("bring", "a", heights),))
        self.assertEqual(self.book.field_by_name("a"), led(FIELD, heights, rule=(2, 3)))
        self.assertEqual(outcome(self.book.do, (("bring", "b", None),)), ("NoName", {"name": "b"}))
        for thing in no_heights() + [flat_field(4, 5)[0], random_field(5, 5, "other rim")[0]]:
            self.assertEqual(outcome(self.book.do, (("bring", "a", thing),)), ("BadHeights", {}))
        book = book_of((("put", "a", flat(3, 3), (1, -1)),))
        self.assertEqual(outcome(book.do, (("bring", "a", highest(flat(3, 3)[0])),)), ("Nought", {"spot": (1, 1)}))

    def test_worth(self):
        self.book.do((("worth", "a", 0, 4, (-7, 3)),))
        self.assertEqual(self.book.field_by_name("a"), with_worth(FIELD, (0, 4), (-7, 3)))
        self.assertEqual(outcome(self.book.do, (("worth", "b", 9, 9, None),)), ("NoName", {"name": "b"}))
        self.assertEqual(outcome(self.book.do, (("worth", "a", 5, 0, None),)), ("BadSpot", {}))
        for thing in ((0, 1), (2, 4), None, 1, "1"):
            self.assertEqual(outcome(self.book.do, (("worth", "a", 0, 0, thing),)), ("BadFraction", {}))

    def test_lade(self):
        self.book.do((("lade", "a", "x height", (-2, 3)),))
        self.assertEqual(self.book.field_by_name("a"), laden(FIELD, "x height", (-2, 3)))
        self.assertEqual(self.book.rule_by_name("a"), (2, 3))
        self.assertEqual(outcome(self.book.do, (("lade", "b", None, None),)), ("NoName", {"name": "b"}))
        self.assertEqual(outcome(self.book.do, (("lade", "a", "z", None),)), ("BadForm", {}))
        self.assertEqual(outcome(self.book.do, (("lade", "a", "x", (0, 1)),)), ("BadFraction", {}))
        self.assertEqual(outcome(self.book.do, (("lade", "a", "x", (10 ** 400, 1)),)), ("TooGreat", {"most": 1000}))

    def test_rule(self):
        self.book.do((("rule", "a", (-1, 4)),))
        self.assertEqual((self.book.rule_by_name("a"), self.book.field_by_name("a")), ((-1, 4), FIELD))
        self.assertEqual(outcome(self.book.do, (("rule", "b", None),)), ("NoName", {"name": "b"}))
        for rule in NO_RULES:
            self.assertEqual(outcome(self.book.do, (("rule", "a", rule),)), ("BadRule", {}))

    def test_full_with_20(self):
        self.assertEqual(MOST_NAMES, 20)
        book = twenty()
        self.assertEqual(len(book), 20)
        for deed in (("put", "z", None, None), ("copy", "a", "z")):
            self.assertEqual(outcome(book.do, (deed,)), ("Full", {"most": 20}))
        self.assertEqual(outcome(book.do, (("copy", "z", "y"),)), ("NoName", {"name": "z"}))
        self.assertEqual(outcome(book.do, (("put", "b", None, None),)), ("Taken", {"name": "b"}))
        self.assertEqual(outcome(book.do, (("copy", "a", "b"),)), ("Taken", {"name": "b"}))
        book.do((("drop", "a"), ("copy", "b", "z")))
        self.assertEqual(len(book), 20)
        self.assertEqual(outcome(book.do, (("copy", "b", "y"), ("drop", "b"))), ("Full", {"most": 20}))


class Jobs(unittest.TestCase):
    def test_bad_job_none(self):
        book = book_of((PUT,))
        for thing in ODD_THINGS + [[("drop", "a")], Job((("drop", "a"),)), {("drop", "a"): 1}, "drop a"]:
            if type(thing) is not tuple or thing == ():
                self.assertEqual(outcome(book.do, thing), ("BadJob", {"number": None}))
        self.assertEqual(outcome(book.do, ("drop", "a")), ("BadJob", {"number": 0}))

    def test_bad_job_with_the_number_of_the_first(self):
        book = book_of((PUT,))
        for wrong in NO_DEEDS:
            for number in (0, 1, 3):
                job = (("up", "a", 1, 1),) * number + (wrong, None)
                self.assertEqual(outcome(book.do, job), ("BadJob", {"number": number}), wrong)
        for name in NO_NAMES:
            for deed in (("put", name, None, None), ("drop", name), ("copy", name, "b"), ("copy", "a", name),
                         ("up", name, 1, 1), ("down", name, 1, 1), ("bring", name, None), ("worth", name, 1, 1, None),
                         ("lade", name, None, None), ("rule", name, None)):
                self.assertEqual(outcome(book.do, (deed,)), ("BadJob", {"number": 0}), deed)
        # By its form each of these is one, whatever its other parts are.
        for deed in (("put", "b", [], {}), ("up", "a", None, "x"), ("bring", "a", 5), ("rule", "a", None)):
            self.assertNotEqual(outcome(book.do, (deed,))[0], "BadJob")
        self.assertEqual(outcome(book.do, (("drop", "b"), ("drop",))), ("BadJob", {"number": 1}))
        self.assertEqual(all_told(book), all_told(book_of((PUT,))))

    def test_all_or_nothing(self):
        book = book_of((PUT,), (("up", "a", 1, 1),))
        book.undo()
        for last in (("drop", "z"), ("copy", "b", "a"), ("up", "a", 1, 1), ("put", "c", None, None),
                     ("rule", "a", (0, 0)),
                     ("lade", "a", "x", (0, 1)), ("bring", "a", None), ("worth", "a", 1, 1, (0, 1)),
                     ("down", "b", 2, 2)):
            ahead = all_told(book)
            job = (("copy", "a", "b"), ("up", "a", 1, 1), ("worth", "b", 0, 0, (5, 1)), ("rule", "a", (1, 1)),
                   ("put", "d", FIELD, (1, 1)), ("lade", "d", "y", (2, 1)), last)
            self.assertNotIn(outcome(book.do, job)[0], ("told", "BadJob"))
            self.assertEqual(all_told(book), ahead)
        # What is refused ends no REDO.
        self.assertEqual(book.redo(), (("up", "a", 1, 1),))

    def test_one_behind_the_other(self):
        book = book_of((PUT, ("copy", "a", "b"), ("drop", "a"), ("up", "b", 2, 2), ("copy", "b", "a"),
                        ("rule", "a", (1, 1))))
        self.assertEqual(book.names(), ("a", "b"))
        self.assertEqual(book.field_by_name("a"), raised(FIELD, (2, 2), rule=(2, 3)))
        self.assertEqual(outcome(book.do, (("drop", "b"), ("up", "b", 1, 1))), ("NoName", {"name": "b"}))

    def test_undo_and_redo(self):
        jobs = [(PUT,), (("up", "a", 2, 2), ("copy", "a", "b")), (("drop", "a"),), (("rule", "b", (1, 1)),)]
        book, told = Book(), []
        for job in jobs:
            told.append(all_told(book))
            book.do(job)
        last = all_told(book)
        for job, ahead in list(zip(jobs, told))[::-1]:
            self.assertEqual(book.undo(), job)
            self.assertEqual(all_told(book), ahead)
        self.assertEqual(outcome(book.undo), ("Gone", {}))
        for number, job in enumerate(jobs):
            self.assertEqual(all_told(book), told[number])
            self.assertEqual(book.redo(), job)
        self.assertEqual(outcome(book.redo), ("Gone", {}))
        self.assertEqual(all_told(book), last)

    def test_a_job_done_ends_all_redo(self):
        book = book_of((PUT,), (("up", "a", 1, 1),), (("up", "a", 3, 3),))
        book.undo()
        book.undo()
        book.do((("up", "a", 1, 3),))
        self.assertRaises(Gone, book.redo)
        self.assertEqual(book.journal(), ((PUT,), (("up", "a", 1, 3),)))
        self.assertEqual(book.undo(), (("up", "a", 1, 3),))

    def test_journal_brings_a_new_book_to_the_same(self):
        chance = random.Random("journal")
        for _ in range(15):
            book = Book()
            for _ in range(40):
                self.go_on(book, chance)
            other = book_of(*book.journal())
            self.assertEqual(other, book)
            self.assertEqual(all_told(other), all_told(book))

    def go_on(self, book, chance):
        name, other = chance.choice("abcd"), chance.choice("abcd")
        x, y = chance.randrange(5), chance.randrange(5)
        deeds = [("put", name, FIELD, (2, 3)), ("drop", name), ("copy", name, other), ("up", name, x, y),
                 ("down", name, x, y), ("bring", name, highest(FIELD[0])), ("worth", name, x, y, (3, 2)),
                 ("lade", name, "height", (2, 1)), ("rule", name, (1, 2))]
        what = chance.random()
        if what < .15:
            outcome(book.undo)
        elif what < .25:
            outcome(book.redo)
        else:
            outcome(book.do, tuple(chance.choices(deeds, k=chance.choice([1, 1, 1, 2, 3]))))

    def test_jobs_without_a_name_in_common_may_be_exchanged(self):
        ahead = (PUT, ("put", "b", flat(3, 3), (1, 1)))
        jobs = [(("up", "a", 2, 2), ("copy", "a", "c")), (("up", "b", 1, 1), ("rule", "b", (4, 4)))]
        self.assertEqual(book_of(ahead, *jobs), book_of(ahead, *jobs[::-1]))
        self.assertNotEqual(book_of(ahead, *jobs).journal(), book_of(ahead, *jobs[::-1]).journal())


class Told(unittest.TestCase):
    def test_names_rising(self):
        book = book_of(*[(("put", name, flat(1, 1), (1, 1)),) for name in ("b", "ab", "a", "c", "aa")])
        self.assertEqual(book.names(), ("a", "aa", "ab", "b", "c"))
        self.assertEqual(Book().names(), ())

    def test_by_name_refused(self):
        book = book_of((PUT,))
        for call in (book.field_by_name, book.rule_by_name, lambda name: book.worth_at(name, None, None, None),
                     lambda name: book.worth_by_pairings(name, None)):
            for name in NO_NAMES:
                self.assertEqual(outcome(call, name), ("BadName", {}))
            self.assertEqual(outcome(call, "b"), ("NoName", {"name": "b"}))

    def test_worths_by_its_rule(self):
        book = book_of((PUT, ("put", "b", flat(5, 5), (1, -1))))
        self.assertEqual(book.worth_at(name="a", x=2, y=2, height=2), worth_at(FIELD, 2, 2, 2, rule=(2, 3)))
        self.assertEqual(book.worth_by_pairings(name="a", target=(2, 2, 2)),
                         worth_by_pairings(FIELD, (2, 2, 2), rule=(2, 3)))
        self.assertEqual(outcome(book.worth_at, "b", 2, 2, 2), ("Nought", {"spot": (2, 2)}))
        self.assertEqual(book.worth_by_pairings("b", (2, 2, 2)), (0, 1))
        self.assertEqual(outcome(book.worth_at, "a", 2, 2, 3), ("BadTarget", {}))
        for thing in no_targets((2, 2, 2)):
            self.assertEqual(outcome(book.worth_by_pairings, "a", thing), ("BadTarget", {}))
        far = book_of((("put", "a", MANY, (1, 1)),))
        self.assertEqual(outcome(far.worth_by_pairings, "a", FAR), ("TooGreat", {"most": 4096}))

    def test_equal(self):
        one, other = book_of((PUT,)), book_of((("put", "b", FIELD, (2, 3)),), (("copy", "b", "a"),), (("drop", "b"),))
        self.assertEqual(one, other)
        self.assertTrue(one == other)
        self.assertFalse(one != other)
        for job in ((("rule", "a", (3, 2)),), (("up", "a", 1, 1),), (("copy", "a", "b"),), (("drop", "a"),)):
            other.do(job)
            self.assertNotEqual(one, other)
            other.undo()
            self.assertEqual(one, other)
        for thing in ODD_THINGS + [Book, {"a": (FIELD, (2, 3))}]:
            self.assertIs(one == thing, False)
            self.assertIs(one != thing, True)
        self.assertEqual(Book(), Book())
        # In whatever order the NAMES came.
        self.assertEqual(book_of((PUT, ("copy", "a", "b"))), book_of((("put", "b", FIELD, (2, 3)), ("copy", "b", "a"))))

    def test_twin_goes_by_itself(self):
        book = book_of((PUT,), (("up", "a", 1, 1),), (("copy", "a", "b"),))
        book.undo()
        twin = book.twin()
        self.assertIsNot(twin, book)
        self.assertIs(type(twin), Book)
        self.assertEqual(twin, book)
        self.assertEqual(all_told(twin), all_told(book))
        ahead = all_told(book)
        self.assertEqual(twin.redo(), (("copy", "a", "b"),))
        twin.undo()
        twin.undo()
        twin.do((("drop", "a"),))
        self.assertEqual(all_told(book), ahead)
        kept = all_told(twin)
        self.assertEqual(book.redo(), (("copy", "a", "b"),))
        book.undo()
        book.undo()
        book.undo()
        self.assertEqual(all_told(twin), kept)
        self.assertEqual(outcome(twin.redo), ("Gone", {}))

    def test_what_was_told_ahead_stays(self):
        book = book_of((PUT,))
        field, journal, names = book.field_by_name("a"), book.journal(), book.names()
        kept = copy.deepcopy((field, journal, names))
        book.do((("up", "a", 1, 1), ("copy", "a", "b")))
        self.assertEqual((field, journal, names), kept)

    def test_a_refused_job_may_have_what_can_change(self):
        book = book_of((PUT,))
        job = (("up", "a", 1, 1), ("put", "b", [FIELD], (1, 1)))
        self.assertRaises(BadField, book.do, job)
        self.assertRaises(BadRule, book.do, (("rule", "a", [1, 1]),))
        self.assertEqual(job, (("up", "a", 1, 1), ("put", "b", [FIELD], (1, 1))))
        self.assertEqual(book.journal(), ((PUT,),))

    def test_names_of_arguments(self):
        told = {"do": ["job"], "undo": [], "redo": [], "names": [], "field_by_name": ["name"], "rule_by_name": ["name"],
                "journal": [], "worth_at": ["name", "x", "y", "height"], "worth_by_pairings": ["name", "target"],
                "twin": []}
        for name, names in told.items():
            self.assertIn(name, vars(Book))
            self.assertEqual(list(inspect.signature(getattr(Book, name)).parameters), ["self"] + names)
        self.assertEqual(list(inspect.signature(Book).parameters), [])


if __name__ == "__main__":
    unittest.main()
