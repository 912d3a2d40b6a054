"""hollowrise.reach: WORTHS at heights, and FIELDS that hold what was found of them."""

import copy
import itertools
import random
import unittest

from hollowrise.errors import (
    BadField, BadRow, BadRule, BadSpot, BadTarget, Gone, NoHollow, NoPeak, Nought)
from hollowrise.fields import is_field, with_worth
from hollowrise.heights import highest, lowest
from hollowrise.reach import Held, need_height, span, worth_at, worths_at
from hollowrise.rows import done, led
from tests.plain import (
    FLAT_5, ONE, RULES, bounds_at, chance_field, deed_done, deeds_at, first_by_hand, heights_behind, is_inner,
    nearest_by_hand, outcome, places_of, row_done, wander, worth_by_hand)
from tests.samples import ODD_THINGS, SIZES, flat_field, near_places, random_field, rows_by, steep_field, worths_for
from tests.test_deeds import HOLLOW, NO_RULES, PEAK
from tests.test_fields import NO_FIELDS, no_spots
from tests.test_rows import NO_DEEDS

ONES = (FLAT_5, rows_by(5, 5, lambda x, y: ONE))


def levels_of(field):
    """All (X, Y, HEIGHT) of point 14."""
    return [(x, y, height) for x, y in places_of(field[0])
            for height in range(bounds_at(field[0], x, y)[0], bounds_at(field[0], x, y)[1] + 1, 2)]


def wanted(held, heights, level):
    """What is wanted by the words of point 15 for a WORTH that isn't held, and isn't held itself."""
    if level in held:
        return set()
    x, y, height = level
    step = 1 if height > heights[y][x] else -1
    found = {level}
    for x_near, y_near in near_places(x, y):
        found |= wanted(held, heights, (x_near, y_near, height - step))
    return found | wanted(held, heights, (x, y, height - 2 * step))


def state_of(held):
    return (held.now(), held.journal(), held.reckoned(), len(held))


class Span(unittest.TestCase):
    def test_by_hand(self):
        self.assertEqual(span(ONES, (2, 2)), (-2, 2))
        self.assertEqual(span(ONES, (1, 2)), (-1, 1))
        self.assertEqual(span(ONES, (1, 1)), (0, 2))
        self.assertEqual(span(field=ONES, spot=(0, 3)), (1, 1))

    def test_all_boards(self):
        for wide, high in SIZES:
            field = random_field(wide, high, "span")
            low, top = lowest(field[0]), highest(field[0])
            for x, y in places_of(field[0]):
                if (x + y) % 3 == 0 or is_inner(field[0], x, y):
                    self.assertEqual(span(field, (x, y)), (low[y][x], top[y][x]))

    def test_the_greatest(self):
        self.assertEqual(span(steep_field(11, 11, 34), (5, 5)), (30, 40))
        self.assertEqual(span(steep_field(11, 11, -35), (5, 5)), (-40, -30))

    def test_refused(self):
        for wide, high in [(1, 1), (3, 2), (11, 11)]:
            field = random_field(wide, high, "refused")
            for thing in no_spots(wide, high):
                self.assertRaises(BadSpot, span, field, thing)
                self.assertRaises(BadSpot, worths_at, field, thing)
                self.assertRaises(BadSpot, worths_at, field, thing, rule=None)


class NeedHeight(unittest.TestCase):
    def test_all_heights_of_some_boards(self):
        for wide, high in [(1, 1), (1, 11), (11, 1), (3, 3), (5, 4), (11, 11)]:
            field = random_field(wide, high, "need")
            for x, y in places_of(field[0]):
                low, top = bounds_at(field[0], x, y)
                for height in range(low - 4, top + 5):
                    if low <= height <= top and (height + x + y) % 2 == 0:
                        self.assertIsNone(need_height(field, x, y, height))
                    else:
                        self.assertRaises(BadTarget, need_height, field, x, y, height)

    def test_of_anything(self):
        field = flat_field(5, 5)
        self.assertIsNone(need_height(field=field, x=1, y=1, height=2))
        calls = [lambda *places: need_height(field, *places), lambda *places: worth_at(field, *places),
                 lambda *places: worth_at(field, *places, rule=None), Held(field).worth_at]
        wrong = [(1, 1, thing) for thing in ODD_THINGS if type(thing) is not int or thing != 0]
        wrong += [(thing, 1, 2) for thing in ODD_THINGS if type(thing) is not int or thing != 1]
        wrong += [(1, thing, 2) for thing in ODD_THINGS if type(thing) is not int or thing != 1]
        wrong += [(-1, 1, 2), (1, -1, 2), (5, 1, 0), (1, 5, 0), (0, 0, 2), (0, 0, -2), (0, 0, 1), (1, 1, 1), (1, 1, 4),
                  (1, 1, -2), (2, 2, 10 ** 999), (2, 2, -10 ** 999), (10 ** 999, 1, 0), (2, 2, 1), (2, 2, True),
                  (True, 1, 0), (1, True, 0), (1, 1, False), ((1, 1), 1, 0), (1.0, 1, 0), (1, 1, 0.0),
                  (None, None, None)]
        for call, places in itertools.product(calls, wrong):
            self.assertRaises(BadTarget, call, *places)

    def test_on_the_rim_its_own_height_alone(self):
        field = random_field(6, 6, "rim")
        for x, y in places_of(field[0]):
            if not is_inner(field[0], x, y):
                height = field[0][y][x]
                self.assertEqual(worth_at(field, x, y, height, rule=(1, -1)), field[1][y][x])
                for other in (height - 2, height + 2, height + 1):
                    self.assertRaises(BadTarget, worth_at, field, x, y, other)


class WorthAt(unittest.TestCase):
    def test_by_hand(self):
        self.assertEqual(worth_at(HOLLOW, 1, 1, 0), (4, 9))
        self.assertEqual(worth_at(HOLLOW, 1, 1, 2), (57, 14))
        self.assertEqual(worth_at(field=HOLLOW, x=1, y=1, height=2, rule=(2, -3)), (333, 28))
        self.assertEqual(worth_at(PEAK, 1, 1, 0, rule=(2, -3)), (333, 28))
        # Of ones by (A, B): a flat field's worths are (A + B) ** (N * (N - 1) / 2).
        flat = (flat_field(11, 11)[0], rows_by(11, 11, lambda x, y: ONE))
        for rule in ((1, 1), (2, 3), (-4, 9), (-2, 1)):
            for n in range(2, 6):
                worth = (sum(rule) ** (n * (n - 1) // 2), 1)
                above, below = (5, 4) if n % 2 == 0 else (4, 5)
                self.assertEqual(worth_at(flat, above, 5, n, rule=rule), worth)
                self.assertEqual(worth_at(flat, below, 5, 1 - n, rule=rule), worth)

    def test_all_heights_of_some_boards(self):
        for (wide, high), rule in itertools.product([(3, 3), (5, 5), (4, 6), (7, 5)], [(1, 1), (2, -3), (-1, 9)]):
            field = random_field(wide, high, "all heights")
            for x, y, height in levels_of(field):
                self.assertEqual(outcome(worth_at, field, x, y, height, rule=rule),
                                 outcome(worth_by_hand, field, x, y, height, rule))

    def test_the_greatest_board(self):
        for field in (random_field(11, 11, "great"), steep_field(11, 11, 34), flat_field(11, 11)):
            for x, y in [(5, 5), (4, 5), (1, 1), (5, 9), (8, 3)]:
                for height in bounds_at(field[0], x, y):
                    self.assertEqual(worth_at(field, x, y, height), worth_by_hand(field, x, y, height))
        low = (lowest(steep_field(11, 11, 34)[0]), worths_for(11, 11))
        self.assertEqual(worth_at(low, 5, 5, 40, rule=(2, 3)), worth_by_hand(low, 5, 5, 40, (2, 3)))

    def test_a_spot_has_one_worth_at_each_height(self):
        for (wide, high), rule in itertools.product([(5, 5), (6, 4)], [(1, 1), (3, -2)]):
            field = random_field(wide, high, "one worth")
            for number in range(6):
                behind = outcome(row_done, field, wander(field[0], 15, number), rule)
                if behind[0] == "told":
                    for x, y, height in levels_of(field):
                        self.assertEqual(worth_at(behind[1], x, y, height, rule=rule),
                                         worth_at(field, x, y, height, rule=rule))

    def test_refused_just_where_a_deed_of_the_first_row_would_be_nought(self):
        refused = {"told": 0, "Nought": 0}
        for seed in range(60):
            field = chance_field(5 + seed % 3, 5, seed)
            rule = RULES[seed % len(RULES)]
            for x, y, height in levels_of(field):
                told = outcome(worth_at, field, x, y, height, rule=rule)
                refused[told[0]] += 1
                self.assertEqual(told, outcome(worth_by_hand, field, x, y, height, rule))
        self.assertGreater(min(refused.values()), 50)

    def test_nought_with_its_spot(self):
        for x, y, height, spot in [(1, 1, 2, (1, 1)), (2, 2, 2, (2, 2)), (2, 2, -2, (1, 2)), (2, 1, -1, (2, 1))]:
            with self.assertRaises(Nought) as caught:
                worth_at(ONES, x, y, height, rule=(1, -1))
            self.assertEqual(caught.exception.spot, spot)
        # What isn't on the way doesn't matter.
        field = with_worth(ONES, (2, 1), (2, 1))
        self.assertEqual(worth_at(field, 1, 1, 2, rule=(1, -1)), (1, 1))
        self.assertEqual(worth_at(ONES, 2, 2, 0, rule=(1, -1)), ONE)

    def test_refused_in_order(self):
        for rule in NO_RULES:
            self.assertRaises(BadRule, worth_at, ONES, 1, 1, 2, rule=rule)
            self.assertRaises(BadRule, worth_at, ONES, 1, 1, 0, rule=rule)
            self.assertRaises(BadRule, worths_at, ONES, (1, 1), rule=rule)
            self.assertRaises(BadRule, Held, ONES, rule=rule)
            self.assertRaises(BadTarget, worth_at, ONES, 1, 1, 4, rule=rule)
            self.assertRaises(BadSpot, worths_at, ONES, (1, 5), rule=rule)
        for place, thing in NO_FIELDS:
            for call in (lambda: span(thing, None), lambda: need_height(thing, None, None, None),
                         lambda: worth_at(thing, None, None, None, rule=None),
                         lambda: worths_at(thing, None, rule=None), lambda: Held(thing, rule=None),
                         lambda: Held(thing)):
                with self.assertRaises(BadField) as caught:
                    call()
                self.assertEqual(caught.exception.place, place)
        for call in (lambda: worth_at(ONES, 1, 1, 2, (1, 1)), lambda: worths_at(ONES, (1, 1), (1, 1)),
                     lambda: Held(ONES, (1, 1))):
            self.assertRaises(TypeError, call)


class WorthsAt(unittest.TestCase):
    def test_by_hand(self):
        self.assertEqual(worths_at(HOLLOW, (1, 1)), ((0, (4, 9)), (2, (57, 14))))
        self.assertEqual(worths_at(field=PEAK, spot=(1, 1), rule=(2, -3)), ((0, (333, 28)), (2, (4, 9))))
        self.assertEqual(worths_at(HOLLOW, (0, 1)), ((1, (3, 1)),))
        self.assertEqual(worths_at(ONES, (2, 2)), ((-2, (8, 1)), (0, (1, 1)), (2, (2, 1))))
        self.assertEqual(worths_at(ONES, (2, 2), rule=(1, -1)), ((-2, None), (0, (1, 1)), (2, None)))

    def test_as_worth_at(self):
        nones = 0
        fields = [random_field(wide, high, "worths") for wide, high in [(1, 1), (1, 11), (4, 4), (6, 5)]]
        fields += [chance_field(5, 6, seed) for seed in range(25)]
        for number, field in enumerate(fields):
            rule = RULES[number % len(RULES)]
            for x, y in places_of(field[0]):
                low, top = bounds_at(field[0], x, y)
                every = worths_at(field, (x, y), rule=rule)
                self.assertEqual([height for height, _ in every], list(range(low, top + 1, 2)))
                for height, worth in every:
                    told = outcome(worth_at, field, x, y, height, rule=rule)
                    self.assertEqual(worth, told[1] if told[0] == "told" else None)
                    nones += worth is None
        self.assertGreater(nones, 10)

    def test_the_greatest_board(self):
        field = flat_field(11, 11)
        every = worths_at(field, (5, 5))
        self.assertEqual([height for height, _ in every], [-4, -2, 0, 2, 4, 6])
        self.assertEqual(every, tuple((height, worth_by_hand(field, 5, 5, height)) for height, _ in every))


class HeldDone(unittest.TestCase):
    def test_by_hand(self):
        held = Held(HOLLOW, rule=(2, -3))
        self.assertEqual(state_of(held), (HOLLOW, (), 0, 0))
        self.assertEqual(held.do(("up", 1, 1)), (333, 28))
        behind = deed_done(HOLLOW, ("up", 1, 1), (2, -3))
        self.assertEqual(state_of(held), (behind, (("up", 1, 1),), 1, 1))
        self.assertEqual(held.do(deed=("down", 1, 1)), (4, 9))
        self.assertEqual(state_of(held), (HOLLOW, (("up", 1, 1), ("down", 1, 1)), 1, 2))
        self.assertEqual(held.undo(), ("down", 1, 1))
        self.assertEqual(state_of(held), (behind, (("up", 1, 1),), 1, 1))
        self.assertEqual(held.undo(), ("up", 1, 1))
        self.assertEqual(state_of(held), (HOLLOW, (), 1, 0))
        self.assertRaises(Gone, held.undo)
        self.assertEqual(held.do(("up", 1, 1)), (333, 28))
        self.assertEqual(held.reckoned(), 1)

    def test_left_out_the_rule_is_one_and_one(self):
        held = Held(field=HOLLOW)
        self.assertEqual(held.worth_at(x=1, y=1, height=2), (57, 14))
        self.assertEqual(held, Held(HOLLOW, rule=(1, 1)))

    def test_long_rows_done_and_undone(self):
        for (wide, high), rule in itertools.product([(5, 5), (11, 11), (3, 9)], [(1, 1), (2, 3)]):
            field = random_field(wide, high, "long")
            row = wander(field[0], 90, str(rule))
            held = Held(field, rule=rule)
            reached, found = [field], set()
            for number, deed in enumerate(row):
                reached.append(deed_done(reached[-1], deed, rule))
                _, x, y = deed
                found.add((x, y, reached[-1][0][y][x]))
                self.assertEqual(held.do(deed), reached[-1][1][y][x])
                self.assertEqual((held.now(), held.journal(), len(held)), (reached[-1], row[:number + 1], number + 1))
            self.assertEqual(held.reckoned(), len(found - levels_at_first(field)))
            self.assertEqual(done(field, held.journal(), rule=rule), held.now())
            for number in range(len(row), 0, -1):
                self.assertEqual(held.undo(), row[number - 1])
                self.assertEqual((held.now(), held.journal()), (reached[number - 1], row[:number - 1]))
            self.assertEqual(held.now(), field)
            self.assertRaises(Gone, held.undo)

    def test_what_is_no_deed(self):
        held = Held(flat_field(5, 4))
        held.do(("up", 1, 1))
        before = state_of(held)
        wrong = NO_DEEDS + [thing for thing in ODD_THINGS] + [("up", 4, 4), (("up", 1, 1),), (), ["down", 1, 1]]
        for thing in wrong:
            with self.assertRaises(BadRow, msg=repr(thing)) as caught:
                held.do(thing)
            self.assertIsNone(caught.exception.number)
            self.assertEqual(state_of(held), before)

    def test_refused_as_the_deed_is(self):
        for seed in range(40):
            field = chance_field(5, 5, seed)
            rule = RULES[seed % len(RULES)]
            held = Held(field, rule=rule)
            for word, (x, y) in itertools.product(("up", "down"), places_of(field[0])):
                before = (held.now(), held.journal(), len(held))
                told = outcome(held.do, (word, x, y))
                by_hand = outcome(deed_done, before[0], (word, x, y), rule)
                if told[0] == "told":
                    self.assertEqual((told[1], held.now()), (by_hand[1][1][y][x], by_hand[1]))
                else:
                    self.assertEqual(told, by_hand)
                    self.assertEqual((held.now(), held.journal(), len(held)), before)

    def test_refusals_by_hand(self):
        held = Held(ONES, rule=(1, -1))
        for deed, kind in [(("up", 1, 1), Nought), (("down", 1, 2), Nought), (("up", 1, 2), NoHollow),
                           (("down", 1, 1), NoPeak), (("up", 0, 0), NoHollow), (("down", 4, 4), NoPeak)]:
            with self.assertRaises(kind) as caught:
                held.do(deed)
            self.assertEqual(caught.exception.spot, deed[1:])
            self.assertEqual(state_of(held), (ONES, (), 0, 0))
        self.assertRaises(Gone, held.undo)


def levels_at_first(field):
    return {(x, y, field[0][y][x]) for x, y in places_of(field[0])}


class HeldAsked(unittest.TestCase):
    def test_by_hand(self):
        held = Held(ONES)
        self.assertEqual((held.worth_at(2, 2, 0), held.reckoned()), ((1, 1), 0))
        self.assertEqual((held.worth_at(2, 2, 2), held.reckoned()), ((2, 1), 1))
        self.assertEqual((held.worth_at(2, 2, 2), held.reckoned()), ((2, 1), 1))
        # Below: its four NEIGHBOURS lowered, then it.
        self.assertEqual((held.worth_at(2, 2, -2), held.reckoned()), ((8, 1), 6))
        self.assertEqual((held.worth_at(1, 2, -1), held.reckoned()), ((2, 1), 6))
        self.assertEqual((held.do(("down", 2, 1)), held.reckoned()), ((2, 1), 6))
        self.assertEqual(held.now(), deed_done(ONES, ("down", 2, 1)))
        self.assertEqual((held.worth_at(2, 2, 2), held.reckoned()), ((2, 1), 6))

    def test_asked_for_the_first_time_as_many_as_deeds_lead_there(self):
        for field in (random_field(6, 6, "first"), flat_field(11, 11), random_field(11, 7, "first")):
            for x, y, height in levels_of(field)[::5]:
                held = Held(field)
                self.assertEqual(held.worth_at(x, y, height), worth_at(field, x, y, height))
                row = first_by_hand(field[0], nearest_by_hand(field[0], x, y, height))
                self.assertEqual(held.reckoned(), len(row))
                self.assertEqual(state_of(held), (field, (), len(row), 0))

    def test_each_is_reckoned_once_and_just_what_is_wanted(self):
        refused = set()
        for seed in range(90):
            field = chance_field(5, 5 + seed % 2, seed) if seed % 3 else random_field(5, 5, seed)
            rule = RULES[seed % len(RULES)]
            held, known = Held(field, rule=rule), levels_at_first(field)
            chance = random.Random(seed)
            levels = levels_of(field)
            for _ in range(25):
                now = held.now()
                before = state_of(held)
                if chance.random() < 0.5:
                    level = chance.choice(levels)
                    told = outcome(held.worth_at, *level)
                    self.assertEqual(told, outcome(worth_at, now, *level, rule=rule))
                    self.assertEqual(told, outcome(worth_by_hand, now, *level, rule))
                    more = wanted(known, now[0], level)
                elif chance.random() < 0.7 and deeds_at(now[0]):
                    word, x, y = deed = chance.choice(deeds_at(now[0]))
                    told = outcome(held.do, deed)
                    more = {(x, y, now[0][y][x] + (2 if word == "up" else -2))} - known
                else:
                    told, more = outcome(held.undo), set()
                refused.add(told[0])
                if told[0] == "told":
                    known |= more
                else:
                    self.assertEqual(state_of(held), before)
                self.assertEqual(held.reckoned(), len(known) - len(levels_at_first(field)))
            self.assertEqual(held.now(), done(field, held.journal(), rule=rule))
        self.assertEqual(refused, {"told", "Nought", "Gone"})

    def test_what_is_refused_has_reckoned_nothing(self):
        # Two come to nought beneath (2, 2), the others not.
        field = with_worth(ONES, (0, 2), (3, 1))
        field = with_worth(field, (2, 0), (5, 1))
        held = Held(field, rule=(1, -1))
        with self.assertRaises(Nought) as caught:
            held.worth_at(2, 2, -2)
        self.assertEqual((caught.exception.spot, held.reckoned()), ((2, 3), 0))
        self.assertEqual((held.worth_at(1, 2, -1), held.worth_at(2, 1, -1), held.reckoned()), ((2, 1), (-4, 1), 2))
        with self.assertRaises(Nought) as caught:
            held.worth_at(2, 2, -2)
        self.assertEqual((caught.exception.spot, held.reckoned()), ((2, 3), 2))

    def test_refused_as_from_the_field_as_it_stands(self):
        # What is held changes which WORTH is reckoned first, but not which DEED is refused.
        spots_told = set()
        for seed in range(250):
            field = chance_field(6, 6, seed, ((1, 1), (-1, 1)))
            rule = RULES[seed % 2]
            held = Held(field, rule=rule)
            chance = random.Random(seed)
            for level in chance.sample(levels_of(field), 12):
                told = outcome(held.worth_at, *level)
                self.assertEqual(told, outcome(worth_by_hand, held.now(), *level, rule))
                deeds = deeds_at(held.now()[0])
                if deeds:
                    outcome(held.do, chance.choice(deeds))
                if told[0] == "Nought":
                    spots_told.add(told[1]["spot"])
        self.assertGreater(len(spots_told), 10)

    def test_asked_from_where_the_field_stands_now(self):
        field = random_field(7, 7, "now")
        for rule in [(1, 1), (2, -3)]:
            held = Held(field, rule=rule)
            for deed in wander(field[0], 40, "now"):
                held.do(deed)
            for x, y, height in levels_of(field)[::3]:
                self.assertEqual(held.worth_at(x, y, height), worth_at(held.now(), x, y, height, rule=rule))
                self.assertEqual(held.worth_at(x, y, height), worth_at(field, x, y, height, rule=rule))

    def test_everything_asked_for_is_reckoned_once_each(self):
        field = random_field(6, 5, "everything")
        held = Held(field)
        for x, y, height in levels_of(field):
            held.worth_at(x, y, height)
        many = len(levels_of(field)) - 30
        self.assertEqual(held.reckoned(), many)
        for deed in wander(field[0], 60, "everything"):
            held.do(deed)
        for x, y, height in levels_of(field)[::-1]:
            held.worth_at(x, y, height)
        self.assertEqual((held.reckoned(), held.now()), (many, led(field, held.now()[0])))


class HeldCompared(unittest.TestCase):
    def test_equal_by_field_and_rule_alone(self):
        one, other = Held(ONES, rule=(2, 3)), Held(copy.deepcopy(ONES), rule=(2, 3))
        self.assertTrue(one == other and not one != other and one == one)
        one.worth_at(2, 2, -2)
        self.assertTrue(one == other)
        one.do(("up", 1, 1))
        self.assertTrue(one != other and not one == other)
        one.do(("down", 1, 1))
        self.assertTrue(one == other and len(one) != len(other))
        other.do(("up", 2, 2))
        self.assertTrue(one != other)
        self.assertTrue(other == Held(deed_done(ONES, ("up", 2, 2), (2, 3)), rule=(2, 3)))
        other.undo()
        self.assertTrue(one == other)
        self.assertTrue(one != Held(ONES) and Held(ONES, rule=(3, 2)) != one)
        self.assertTrue(one != Held(with_worth(ONES, (0, 0), (2, 1)), rule=(2, 3)))
        self.assertTrue(Held(ONES) != Held((highest(FLAT_5), ONES[1])))

    def test_to_what_is_no_held_none_is_equal(self):
        class AllAlike:
            def __eq__(self, other):
                return True

        held = Held(ONES)
        for thing in ODD_THINGS + [ONES, held.now(), (ONES, (1, 1)), AllAlike()]:
            self.assertIs(held == thing, False)
            self.assertIs(held != thing, True)

    def test_length(self):
        held = Held(ONES)
        self.assertEqual(len(held), 0)
        for number, deed in enumerate(wander(FLAT_5, 9, "length"), 1):
            held.do(deed)
            self.assertEqual(len(held), number)
        held.undo()
        self.assertEqual(len(held), 8)


class HeldAlone(unittest.TestCase):
    def test_two_of_one_field_go_by_themselves(self):
        one, other = Held(ONES), Held(ONES)
        one.do(("up", 1, 1))
        one.worth_at(2, 2, -2)
        self.assertEqual(state_of(other), (ONES, (), 0, 0))
        other.do(("up", 3, 3))
        self.assertEqual(one.journal(), (("up", 1, 1),))

    def test_what_was_told_stays(self):
        held = Held(ONES)
        held.do(("up", 1, 1))
        told = (held.now(), held.journal(), held.reckoned())
        kept = copy.deepcopy(told)
        held.do(("up", 2, 2))
        held.worth_at(2, 2, -2)
        held.undo()
        held.undo()
        self.assertEqual(told, kept)
        self.assertTrue(is_field(told[0]) and type(told[1]) is tuple)

    def test_the_methods_stand_in_the_class_itself(self):
        for name in ("__init__", "__eq__", "__len__", "do", "undo", "now", "journal", "worth_at", "reckoned"):
            self.assertIn(name, vars(Held))
        self.assertEqual(Held.__module__, "hollowrise.reach")

    def test_the_field_behind_a_row_is_done_by_the_journal(self):
        field = random_field(8, 6, "journal")
        held = Held(field)
        for deed in wander(field[0], 25, "journal"):
            held.do(deed)
        self.assertEqual((held.now(), held.now()[0]), (done(field, held.journal()),
                                                       heights_behind(field[0], held.journal())))


if __name__ == "__main__":
    unittest.main()
