"""hollowrise.rows: ROWS of DEEDS, and the FEWEST that lead from HEIGHTS to HEIGHTS."""

import itertools
import random
import unittest
from math import factorial

from hollowrise.errors import BadField, BadHeights, BadRow, BadRule, NoHollow, NoPeak, Nought, TooGreat
from hollowrise.fields import with_worth
from hollowrise.heights import all_heights, apart, greater, highest, lesser, lowest
from hollowrise.rows import back, done, first_row, how_far, how_many_rows, led, need_row, row_by
from tests.plain import (
    FLAT_5, ONE, RULES, chance_field, deeds_at, fewest_rows, first_by_hand, heights_behind, heights_done, outcome,
    places_of, row_done, row_reached, strips, told_back, wander, ways_apart)
from tests.samples import ODD_THINGS, SIZES, flat_field, random_field, random_heights, rows_by, with_thing, worths_for
from tests.test_deeds import HOLLOW, NO_RULES
from tests.test_fields import NO_FIELDS
from tests.test_heights import FEW, ONE_MORE, no_heights

NO_DEEDS = [
    ("up", 5, 0), ("up", 0, 4), ("down", -1, 0), ("down", 0, -1), ("up", True, 1), ("up", 1, False), ("up", 1.0, 1),
    ("up", "1", 1), ("up", None, 1), ("up", 1), ("up", 1, 1, 1), ("up",), (1, 1), ("UP", 1, 1), ("Down", 1, 1),
    ("", 1, 1), ("left", 1, 1), (b"up", 1, 1), (1, 1, 1), (None, 1, 1), (("up",), 1, 1), ["up", 1, 1], "up", "up1",
    {"up": 1}, ("up", (1, 1)), ("up", 10 ** 999, 1), ("up", 1, -10 ** 999), (True, 1, 1), ([], 1, 1), ("u", "p", 1),
    (1, 1, "up"), ("up ", 1, 1),
]


def twelve_apart(many):
    """HEIGHTS of 11 by 11, and such with so many HOLLOWS RAISED that have nothing to do with each other."""
    flat = flat_field(11, 11)[0]
    row = tuple(deed for deed in deeds_at(flat) if deed[0] == "up")[:many]
    return flat, heights_behind(flat, row), row


class NeedRow(unittest.TestCase):
    def refused(self, field, row, number):
        with self.assertRaises(BadRow, msg=repr(row)) as caught:
            need_row(field, row)
        self.assertEqual(caught.exception.number, number)
        for function in (done, how_far):
            with self.assertRaises(BadRow) as caught:
                function(field, row)
            self.assertEqual(caught.exception.number, number)

    def test_good_ones(self):
        for wide, high in SIZES:
            field = flat_field(wide, high)
            every = tuple((word, x, y) for word in ("up", "down") for x, y in places_of(field[0]))
            self.assertIsNone(need_row(field, every))
            self.assertIsNone(need_row(field=field, row=()))

    def test_what_is_no_tuple(self):
        field = flat_field(5, 4)
        for thing in [[], [("up", 1, 1)], None, "up", {}, {("up", 1, 1)}, 1, iter([]), range(0), True, b""]:
            self.refused(field, thing, None)
        for thing in ODD_THINGS:
            if type(thing) is not tuple:
                self.refused(field, thing, None)
            elif thing:
                self.refused(field, thing, 0)

    def test_the_number_of_the_first_that_is_no_deed(self):
        field = flat_field(5, 4)
        good = (("up", 1, 1), ("down", 2, 1), ("up", 0, 0), ("down", 4, 3))
        for thing in NO_DEEDS:
            for number in range(5):
                self.refused(field, good[:number] + (thing,) + good[number:], number)
                self.refused(field, good[:number] + (thing, None) + good, number)
        self.refused(field, ("up", 1, 1), 0)
        self.refused(field, good * 100 + (None,), 400)

    def test_spots_of_the_field_alone(self):
        for wide, high in SIZES:
            field = flat_field(wide, high)
            self.refused(field, (("up", 0, 0), ("up", wide, 0)), 1)
            self.refused(field, (("up", 0, 0), ("down", wide - 1, high - 1), ("down", 0, high)), 2)


class Done(unittest.TestCase):
    def test_by_hand(self):
        up = (HOLLOW[0][:1] + ((1, 2, 1),) + HOLLOW[0][2:], with_thing(HOLLOW[1], 1, 1, (57, 14)))
        self.assertEqual(done(HOLLOW, (("up", 1, 1),)), up)
        self.assertEqual(done(up, (("down", 1, 1),)), HOLLOW)
        self.assertEqual(done(field=HOLLOW, row=(("up", 1, 1), ("down", 1, 1), ("up", 1, 1)), rule=(1, 1)), up)
        self.assertEqual(done(HOLLOW, (("up", 1, 1),), rule=(2, -3))[1][1][1], (333, 28))

    def test_of_no_deed(self):
        for wide, high in SIZES:
            field = random_field(wide, high, "none")
            self.assertEqual(done(field, ()), field)
            self.assertEqual(how_far(field, ()), 0)

    def test_long_rows(self):
        for (wide, high), rule in itertools.product([(5, 5), (11, 11), (3, 11), (6, 4)], [(1, 1), (2, 3), (-1, 9)]):
            field = random_field(wide, high, "long")
            row = wander(field[0], 150, str(rule))
            told = outcome(done, field, row, rule=rule)
            self.assertEqual(told, outcome(row_done, field, row, rule))
            self.assertEqual(how_far(field, row, rule=rule), row_reached(field, row, rule))
            if told[0] == "told":
                self.assertEqual(done(told[1], back(row), rule=rule), field)
                self.assertEqual(done(field, row + back(row), rule=rule), field)

    def test_a_deed_over_and_over(self):
        row = (("up", 1, 1), ("down", 1, 1)) * 2000
        self.assertEqual(done(HOLLOW, row), HOLLOW)
        self.assertEqual(how_far(HOLLOW, row), 4000)
        self.assertEqual(how_far(HOLLOW, row + (("down", 1, 1),) * 5), 4000)

    def test_refused_at_the_first_a_middle_and_the_last_place(self):
        field = flat_field(5, 5)
        row = (("up", 1, 1), ("up", 2, 2), ("up", 3, 1), ("up", 3, 3))
        self.assertEqual(done(field, row), row_done(field, row))
        for number in range(5):
            for deed, kind in ((("up", 0, 0), NoHollow), (("down", 4, 4), NoPeak), (("up", 3, 2), NoHollow),
                               (("down", 1, 3), NoPeak)):
                told = row[:number] + (deed,) + row[number:]
                with self.assertRaises(kind) as caught:
                    done(field, told)
                self.assertEqual(caught.exception.spot, deed[1:])
                self.assertEqual(how_far(field, told), number)

    def test_nought_at_each_place(self):
        field = (FLAT_5, rows_by(5, 5, lambda x, y: ONE))
        field = with_worth(field, (2, 3), (-1, 1))
        row = (("up", 1, 1), ("up", 3, 1))
        for number in range(3):
            told = row[:number] + (("up", 2, 2),) + row[number:]
            with self.assertRaises(Nought) as caught:
                done(field, told)
            self.assertEqual((caught.exception.spot, how_far(field, told)), ((2, 2), number))
            self.assertEqual(how_far(field, told, rule=(1, -1)), row_reached(field, told, (1, -1)))

    def test_chance_rows_of_fields_with_noughts(self):
        refused = set()
        for seed in range(150):
            field = chance_field(5, 5, seed)
            chance = random.Random(seed)
            row = wander(field[0], 12, seed)
            if seed % 3 == 0:
                at = chance.randrange(len(row) + 1)
                row = row[:at] + ((chance.choice(["up", "down"]), chance.randrange(5), chance.randrange(5)),) + row[at:]
            rule = RULES[seed % len(RULES)]
            told = outcome(done, field, row, rule=rule)
            refused.add(told[0])
            self.assertEqual(told, outcome(row_done, field, row, rule))
            self.assertEqual(how_far(field, row, rule=rule), row_reached(field, row, rule))
        self.assertEqual(refused, {"told", "NoHollow", "NoPeak", "Nought"})

    def test_left_out_the_rule_is_one_and_one(self):
        field = random_field(6, 6, "rule")
        row = wander(field[0], 9, "rule")
        self.assertEqual(outcome(done, field, row), outcome(done, field, row, rule=(1, 1)))
        for function in (done, how_far):
            with self.assertRaises(TypeError):
                function(field, row, (1, 1))

    def test_the_first_refusal_that_is_due(self):
        field = flat_field(5, 5)
        for function in (done, how_far):
            for rule in NO_RULES:
                for row in [(), (("up", 1, 1),), (("up", 0, 0),), (("up", 1, 1), ("up", 1, 1))]:
                    self.assertRaises(BadRule, function, field, row, rule=rule)
                self.assertRaises(BadRow, function, field, (("up", 1, 1), ("up", 5, 5)), rule=rule)
                self.assertRaises(BadRow, function, field, None, rule=rule)
        with self.assertRaises(BadRow) as caught:
            done(field, (("up", 0, 0), ("up", 9, 9)))
        self.assertEqual(caught.exception.number, 1)
        for place, thing in NO_FIELDS:
            for call in (lambda: need_row(thing, None), lambda: done(thing, None, rule=None),
                         lambda: how_far(thing, None, rule=None), lambda: led(thing, None, rule=None)):
                with self.assertRaises(BadField) as caught:
                    call()
                self.assertEqual(caught.exception.place, place)


class AllRowsToTheSameHeights(unittest.TestCase):
    def test_t1_of_small_boards_everywhere(self):
        # Each HEIGHTS by each DEED that leads on: whichever way it is come to, the WORTHS are the same.
        for seed, rule in enumerate([(1, 1), (2, 3), (2, -5), (-1, 4)]):
            field = random_field(5, 5, f"t1 {seed}")
            found = {field[0]: field}
            layer = [field]
            while layer:
                ahead = []
                for one in layer:
                    for deed in deeds_at(one[0]):
                        told = outcome(done, one, (deed,), rule=rule)
                        self.assertEqual(told[0], "told")
                        if told[1][0] in found:
                            self.assertEqual(found[told[1][0]], told[1])
                        else:
                            found[told[1][0]] = told[1]
                            ahead.append(told[1])
                layer = ahead
                if len(found) > 250:
                    break

    def test_t1_of_fields_with_noughts(self):
        met = 0
        for seed in range(120):
            field = chance_field(5, 4, seed)
            rule = RULES[seed % len(RULES)]
            found = {}
            for number in range(12):
                row = wander(field[0], 10, f"{seed} {number}")
                row = row[:how_far(field, row, rule=rule)]
                heights, worths = done(field, row, rule=rule)
                met += heights in found
                self.assertEqual(found.setdefault(heights, worths), worths)
        self.assertGreater(met, 200)

    def test_t1_of_great_boards(self):
        for rule in [(1, 1), (3, -2)]:
            field = random_field(11, 11, "great")
            row = wander(field[0], 80, str(rule))
            behind = done(field, row, rule=rule)
            self.assertEqual(led(field, behind[0], rule=rule), behind)
            by_lesser = led(led(field, lesser(field[0], behind[0]), rule=rule), behind[0], rule=rule)
            by_greater = led(led(field, greater(field[0], behind[0]), rule=rule), behind[0], rule=rule)
            self.assertEqual((by_lesser, by_greater), (behind, behind))


class Back(unittest.TestCase):
    def test_by_hand(self):
        self.assertEqual(back(()), ())
        self.assertEqual(back((("up", 1, 2),)), (("down", 1, 2),))
        self.assertEqual(back(row=(("up", 1, 2), ("up", 3, 4), ("down", 10, 0))),
                         (("up", 10, 0), ("down", 3, 4), ("down", 1, 2)))

    def test_any_spot_of_11_by_11(self):
        row = tuple((word, x, y) for x in range(11) for y in range(11) for word in ("up", "down", "up"))
        self.assertEqual(back(row), told_back(row))
        self.assertEqual(back(back(row)), row)

    def test_of_anything(self):
        good = (("up", 0, 0), ("down", 10, 10))
        wrong = [deed for deed in NO_DEEDS if deed not in (("up", 5, 0), ("up", 0, 4))]
        for thing in wrong + [("up", 11, 0), ("up", 0, 11), ("down", 11, 11), None, 1]:
            for number in range(3):
                with self.assertRaises(BadRow, msg=repr(thing)) as caught:
                    back(good[:number] + (thing,) + good[number:] + (None,))
                self.assertEqual(caught.exception.number, number)
        for thing in [list(good), None, "", {}, 0, True, set()]:
            with self.assertRaises(BadRow) as caught:
                back(thing)
            self.assertIsNone(caught.exception.number)


class FirstRow(unittest.TestCase):
    def test_by_hand(self):
        raised = ((0, 1, 0), (1, 2, 1), (0, 1, 0))
        self.assertEqual(first_row(FEW, raised), (("up", 1, 1),))
        self.assertEqual(first_row(one=raised, other=FEW), (("down", 1, 1),))
        self.assertEqual(first_row(FEW, FEW), ())
        self.assertEqual(first_row(lowest(FLAT_5), highest(FLAT_5)), (
            ("up", 2, 2), ("up", 1, 2), ("up", 2, 1), ("up", 1, 1), ("up", 2, 3), ("up", 1, 3), ("up", 3, 2),
            ("up", 2, 2), ("up", 3, 1), ("up", 3, 3)))

    def test_downs_ahead_of_ups_by_x_then_y(self):
        one = ((0, 1, 0, 1, 0), (1, 2, 1, 0, 1), (0, 1, 0, 1, 0), (1, 0, 1, 2, 1), (0, 1, 0, 1, 0))
        other = ((0, 1, 0, 1, 0), (1, 0, 1, 2, 1), (0, 1, 0, 1, 0), (1, 2, 1, 0, 1), (0, 1, 0, 1, 0))
        self.assertEqual(first_row(one, other), (("down", 1, 1), ("down", 3, 3), ("up", 1, 3), ("up", 3, 1)))
        self.assertEqual(first_row(other, one), (("down", 1, 3), ("down", 3, 1), ("up", 1, 1), ("up", 3, 3)))

    def test_is_the_first_of_all_fewest_rows(self):
        for wide, high in [(3, 3), (4, 3), (4, 4), (5, 3), (3, 6)]:
            heights = random_heights(wide, high, "first")
            every = sorted(ways_apart(heights))
            for one, other in itertools.islice(itertools.product(every, every), 0, None, 1 + len(every) ** 2 // 60):
                rows = fewest_rows(one, other)
                self.assertEqual(first_row(one, other), rows[0])
                self.assertEqual({len(row) for row in rows}, {apart(one, other)})

    def test_great_boards(self):
        for wide, high in [(11, 11), (11, 7), (4, 11), (1, 11), (11, 1), (2, 5)]:
            one = random_heights(wide, high, "great")
            for other in (lowest(one), highest(one), heights_behind(one, wander(one, 70, "great"))):
                for first, last in ((one, other), (other, one), (lowest(one), other), (highest(one), other)):
                    row = first_row(first, last)
                    self.assertEqual(row, first_by_hand(first, last))
                    self.assertEqual((len(row), heights_behind(first, row)), (apart(first, last), last))

    def test_boards_with_one_row_or_column_within(self):
        for long, number in itertools.product(range(3, 12), range(12)):
            for wide, high in ((long, 3), (3, long)):
                heights = random_heights(wide, high, f"one row {number}", 20)
                for one, other in ((lowest(heights), highest(heights)), (highest(heights), lowest(heights)),
                                   (heights, highest(heights)), (lowest(heights), heights)):
                    self.assertEqual(first_row(one, other), first_by_hand(one, other))

    def test_from_the_lowest_to_the_highest_of_the_greatest_board(self):
        flat = flat_field(11, 11)[0]
        low, top = lowest(flat), highest(flat)
        row = first_row(low, top)
        self.assertEqual((len(row), heights_behind(low, row)), (apart(low, top), top))

    def test_refused(self):
        for function in (first_row, how_many_rows, lambda one, other: row_by(one, other, None)):
            for thing in no_heights():
                self.assertRaises(BadHeights, function, thing, FEW)
                self.assertRaises(BadHeights, function, FEW, thing)
            self.assertRaises(BadHeights, function, FEW, flat_field(3, 4)[0])
            self.assertRaises(BadHeights, function, FEW, flat_field(4, 3)[0])
            self.assertRaises(BadHeights, function, FEW, rows_by(3, 3, lambda x, y: FEW[y][x] + 2))
            self.assertRaises(BadHeights, function, FEW, ((0, 1, 2), (1, 0, 1), (0, 1, 0)))


class AllFewestRows(unittest.TestCase):
    def test_by_hand(self):
        raised = ((0, 1, 0), (1, 2, 1), (0, 1, 0))
        self.assertEqual((how_many_rows(FEW, FEW), row_by(FEW, FEW, 0)), (1, ()))
        self.assertEqual((how_many_rows(one=FEW, other=raised), row_by(one=FEW, other=raised, number=0)),
                         (1, (("up", 1, 1),)))
        one = ((0, 1, 0, 1, 0), (1, 0, 1, 0, 1), (0, 1, 0, 1, 0))
        other = ((0, 1, 0, 1, 0), (1, 2, 1, 2, 1), (0, 1, 0, 1, 0))
        self.assertEqual(how_many_rows(one, other), 2)
        self.assertEqual([row_by(one, other, number) for number in (0, 1)],
                         [(("up", 1, 1), ("up", 3, 1)), (("up", 3, 1), ("up", 1, 1))])

    def test_all_rows_of_small_boards(self):
        for wide, high in [(3, 3), (4, 3), (4, 4), (5, 3), (3, 6), (5, 4)]:
            heights = random_heights(wide, high, "all")
            every = sorted(ways_apart(heights))
            for one, other in itertools.islice(itertools.product(every, every), 0, None, 1 + len(every) ** 2 // 40):
                rows = fewest_rows(one, other)
                self.assertEqual(how_many_rows(one, other), len(rows))
                chosen = range(0, len(rows), 1 + len(rows) // 40)
                self.assertEqual([row_by(one, other, number) for number in chosen], [rows[number] for number in chosen])
                self.assertEqual(row_by(one, other, len(rows) - 1), rows[-1])

    def test_from_the_lowest_to_the_highest(self):
        low, top = lowest(FLAT_5), highest(FLAT_5)
        rows = fewest_rows(low, top)
        self.assertEqual(how_many_rows(low, top), len(rows))
        for number in range(0, len(rows), 1 + len(rows) // 50):
            self.assertEqual(row_by(low, top, number), rows[number])
            self.assertEqual(heights_behind(low, rows[number]), top)

    def test_the_row_of_number_0_is_the_first(self):
        for wide, high in [(5, 4), (4, 6), (3, 11)]:
            one = random_heights(wide, high, "nought")
            other = heights_behind(one, wander(one, 9, "nought"))
            self.assertEqual(row_by(one, other, 0), first_row(one, other))

    def test_just_4096_heights_and_more(self):
        one, other, row = twelve_apart(12)
        many = factorial(12)
        self.assertEqual(how_many_rows(one, other), many)
        self.assertEqual(row_by(one, other, 0), row)
        self.assertEqual(row_by(one, other, many - 1), row[::-1])
        self.assertEqual(row_by(one, other, factorial(11)), (row[1], row[0]) + row[2:])
        self.assertRaises(BadRow, row_by, one, other, many)
        low, top = lowest(strips(9, 4)), highest(strips(9, 4))
        self.assertEqual(how_many_rows(low, top), factorial(28) // factorial(7) ** 4)
        self.assertEqual(row_by(low, top, 0), first_row(low, top))
        self.assertEqual(how_many_rows(top, low), how_many_rows(low, top))

    def test_too_great(self):
        one, other, _ = twelve_apart(13)
        low, top = lowest(ONE_MORE), highest(ONE_MORE)
        for first, last in [(one, other), (other, one), (low, top), (top, low)]:
            for call in (lambda: how_many_rows(first, last), lambda: row_by(first, last, 0),
                         lambda: row_by(first, last, -1), lambda: row_by(first, last, None)):
                with self.assertRaises(TooGreat) as caught:
                    call()
                self.assertEqual(caught.exception.most, 4096)
        # As many HEIGHTS of the RIM, but few between.
        self.assertEqual(how_many_rows(one, one), 1)
        self.assertEqual(how_many_rows(ONE_MORE, heights_done(ONE_MORE, deeds_at(ONE_MORE)[0])), 1)

    def test_great_boards_with_few_between(self):
        one = random_heights(11, 11, "few")
        for many in (1, 5, 9):
            other = heights_behind(one, wander(one, many, "few"))
            rows = how_many_rows(one, other)
            for number in {0, rows // 2, rows - 1}:
                row = row_by(one, other, number)
                self.assertEqual((heights_behind(one, row), len(row)), (other, apart(one, other)))

    def test_bad_row_with_the_very_thing(self):
        raised = ((0, 1, 0), (1, 2, 1), (0, 1, 0))
        for thing in [1, -1, 10 ** 999, -10 ** 999, True, False, None, 0.0, "0", (0,), [0], {}, object(), b"0"]:
            for one, other in ((FEW, raised), (FEW, FEW)):
                with self.assertRaises(BadRow, msg=repr(thing)) as caught:
                    row_by(one, other, thing)
                self.assertIs(caught.exception.number, thing)
        for thing in [2, 3, -1, -2]:
            with self.assertRaises(BadRow) as caught:
                row_by(FLAT_5, heights_behind(FLAT_5, (("up", 1, 1), ("up", 3, 3))), thing)
            self.assertEqual(caught.exception.number, thing)


class Led(unittest.TestCase):
    def test_by_hand(self):
        raised = ((0, 1, 0), (1, 2, 1), (0, 1, 0))
        self.assertEqual(led(HOLLOW, raised), (raised, with_thing(HOLLOW[1], 1, 1, (57, 14))))
        self.assertEqual(led(field=HOLLOW, heights=raised, rule=(2, -3))[1][1][1], (333, 28))
        self.assertEqual(led(HOLLOW, HOLLOW[0]), HOLLOW)

    def test_as_the_first_row_leads(self):
        for wide, high in [(1, 1), (1, 11), (4, 4), (5, 7), (11, 11)]:
            for rule in [(1, 1), (2, 3)]:
                field = random_field(wide, high, "led")
                one = field[0]
                for other in (lowest(one), highest(one), heights_behind(one, wander(one, 30, "led"))):
                    row = first_by_hand(one, other)
                    self.assertEqual(led(field, other, rule=rule), row_done(field, row, rule))

    def test_refused_as_the_first_row_is(self):
        refused = set()
        for seed in range(120):
            field = chance_field(5, 5, seed)
            rule = RULES[seed % len(RULES)]
            for other in random.Random(seed).choices(all_heights(field[0]), k=3):
                told = outcome(led, field, other, rule=rule)
                refused.add(told[0])
                self.assertEqual(told, outcome(row_done, field, first_by_hand(field[0], other), rule))
        self.assertEqual(refused, {"told", "Nought"})

    def test_the_first_of_several_that_come_to_nought(self):
        field = (FLAT_5, rows_by(5, 5, lambda x, y: ONE))
        other = heights_behind(FLAT_5, (("up", 1, 1), ("down", 2, 3), ("up", 3, 1)))
        with self.assertRaises(Nought) as caught:
            led(field, other, rule=(1, -1))
        self.assertEqual(caught.exception.spot, (2, 3))
        field = with_worth(field, (1, 3), (2, 1))
        with self.assertRaises(Nought) as caught:
            led(field, other, rule=(1, -1))
        self.assertEqual(caught.exception.spot, (1, 1))

    def test_refused_in_order(self):
        flat = flat_field(5, 5)
        for thing in no_heights() + [flat_field(5, 4)[0], rows_by(5, 5, lambda x, y: flat[0][y][x] - 2)]:
            self.assertRaises(BadHeights, led, flat, thing)
            self.assertRaises(BadHeights, led, flat, thing, rule=None)
            self.assertRaises(BadField, led, flat[:1], thing, rule=None)
        ones = (flat[0], rows_by(5, 5, lambda x, y: ONE))
        for rule in NO_RULES:
            self.assertRaises(BadRule, led, ones, highest(flat[0]), rule=rule)
            self.assertRaises(BadRule, led, ones, flat[0], rule=rule)
        self.assertRaises(Nought, led, ones, highest(flat[0]), rule=(1, -1))
        with self.assertRaises(TypeError):
            led(flat, flat[0], (1, 1))

    def test_any_heights_of_one_rim_are_led_to_each_other(self):
        field = (FLAT_5, worths_for(5, 5))
        every = all_heights(FLAT_5)
        for other in every:
            self.assertEqual(led(field, other)[0], other)


if __name__ == "__main__":
    unittest.main()
