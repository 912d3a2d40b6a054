"""hollowrise.deeds: HOLLOWS and PEAKS, RAISED and LOWERED, one and several at once."""

import itertools
import unittest
from fractions import Fraction

from hollowrise.deeds import hollows, lowered, lowered_all, peaks, raised, raised_all
from hollowrise.errors import BadField, BadRule, BadSpot, NoHollow, NoPeak, Nought
from hollowrise.fields import is_field, with_worth, worth_of
from tests.plain import ONE, RULES, can_go, chance_field, deed_done, heights_behind, outcome, places_of, wander
from tests.samples import ODD_THINGS, SIXTY, SIZES, flat_field, lacks_one, random_field, rows_by, worths_for
from tests.test_fields import NO_FIELDS, no_spots

# A HOLLOW in the middle, and what it is RAISED to by (1, 1) and by (2, -3).
EDGE = ((1, 2), (3, 1), (5, 7), (-2, 3))
HOLLOW = (((0, 1, 0), (1, 0, 1), (0, 1, 0)), ((ONE, EDGE[0], ONE), (EDGE[1], (4, 9), EDGE[2]), (ONE, EDGE[3], ONE)))
PEAK = (((0, 1, 0), (1, 2, 1), (0, 1, 0)), HOLLOW[1])
GOOD_AND_BAD = [(1, 1), (2, -3), (9, 4)]
SINGLE = [("up", raised, NoHollow), ("down", lowered, NoPeak)]
SEVERAL = [("up", raised_all, NoHollow), ("down", lowered_all, NoPeak)]
NO_RULES = [None, 1, (1,), (1, 1, 1), (0, 1), (1, 0), (10, 1), (1, -10), [1, 1], (True, 1), (1, True), ("1", "1"),
            (1.0, 1), "ab", ((1, 1), 1), (10 ** 999, 1), {}, (Fraction(1), 1)]


def spots_with(field, step):
    return tuple((x, y) for x, y in places_of(field[0]) if can_go(field[0], x, y, step))


class HollowsAndPeaks(unittest.TestCase):
    def test_by_hand(self):
        self.assertEqual(hollows(HOLLOW), ((1, 1),))
        self.assertEqual(peaks(HOLLOW), ())
        self.assertEqual(hollows(field=PEAK), ())
        self.assertEqual(peaks(field=PEAK), ((1, 1),))
        self.assertEqual(hollows(flat_field(5, 5)), ((1, 1), (1, 3), (2, 2), (3, 1), (3, 3)))
        self.assertEqual(peaks(flat_field(5, 5)), ((1, 2), (2, 1), (2, 3), (3, 2)))

    def test_none_on_the_rim(self):
        for wide, high in SIZES:
            if min(wide, high) <= 2:
                field = random_field(wide, high, "rim")
                self.assertEqual((hollows(field), peaks(field)), ((), ()))

    def test_all_boards(self):
        for wide, high in SIZES:
            for seed in range(2):
                field = random_field(wide, high, seed)
                self.assertEqual(hollows(field), spots_with(field, 1))
                self.assertEqual(peaks(field), spots_with(field, -1))

    def test_no_two_are_neighbours(self):
        for wide, high in [(5, 5), (11, 11), (4, 9)]:
            for seed in range(10):
                field = random_field(wide, high, seed)
                for found in (hollows(field), peaks(field)):
                    for (x, y), (a, b) in itertools.combinations(found, 2):
                        self.assertGreater(abs(x - a) + abs(y - b), 1)


class One(unittest.TestCase):
    def test_by_hand(self):
        # 3 * 5/7 = 15/7, 1/2 * -2/3 = -1/3: 38/21 together, by 4/9 it is 57/14.
        up = raised(HOLLOW, (1, 1))
        self.assertEqual(up, (PEAK[0], ((ONE, EDGE[0], ONE), (EDGE[1], (57, 14), EDGE[2]), (ONE, EDGE[3], ONE))))
        self.assertEqual(worth_of(lowered(PEAK, (1, 1)), (1, 1)), (57, 14))
        # 2 * 15/7 - 3 * -1/3 = 37/7, by 4/9 it is 333/28.
        self.assertEqual(worth_of(raised(field=HOLLOW, spot=(1, 1), rule=(2, -3)), (1, 1)), (333, 28))
        self.assertEqual(worth_of(lowered(field=PEAK, spot=(1, 1), rule=(2, -3)), (1, 1)), (333, 28))
        # The other way about: 3 * 15/7 + 2 * 1/3 = 149/21, by 4/9 it is 447/28.
        self.assertEqual(worth_of(raised(HOLLOW, (1, 1), rule=(3, -2)), (1, 1)), (447, 28))

    def test_a_is_for_west_and_east_b_for_north_and_south(self):
        for spot, number in (((0, 1), 0), ((2, 1), 0), ((1, 0), 1), ((1, 2), 1)):
            field = (HOLLOW[0], ((ONE, ONE, ONE), (ONE, ONE, ONE), (ONE, ONE, ONE)))
            field = with_worth(field, spot, (100, 1))
            for rule in RULES[2:]:
                value = rule[number] * 100 + rule[1 - number]
                self.assertEqual(worth_of(raised(field, (1, 1), rule=rule), (1, 1)), (value, 1))

    def test_all_spots_of_some_fields(self):
        for wide, high in [(1, 1), (1, 11), (3, 3), (4, 5), (7, 3), (11, 11)]:
            for rule, seed in itertools.product(RULES, range(2)):
                field = random_field(wide, high, seed)
                for (word, function, _), (x, y) in itertools.product(SINGLE, places_of(field[0])):
                    told = outcome(function, field, (x, y), rule=rule)
                    self.assertEqual(told, outcome(deed_done, field, (word, x, y), rule))
                    if told[0] == "told":
                        self.assertIs(is_field(told[1]), True)

    def test_each_undoes_the_other(self):
        for field in (random_field(6, 7, "undone"), random_field(11, 11, "undone"), chance_field(9, 5, "undone")):
            for rule in RULES:
                for spot in hollows(field):
                    told = outcome(raised, field, spot, rule=rule)
                    if told[0] == "told":
                        self.assertIn(spot, peaks(told[1]))
                        self.assertEqual(lowered(told[1], spot, rule=rule), field)
                for spot in peaks(field):
                    told = outcome(lowered, field, spot, rule=rule)
                    if told[0] == "told":
                        self.assertIn(spot, hollows(told[1]))
                        self.assertEqual(raised(told[1], spot, rule=rule), field)

    def test_left_out_the_rule_is_one_and_one(self):
        field = random_field(7, 7, "rule")
        for spot in hollows(field):
            self.assertEqual(raised(field, spot), raised(field, spot, rule=(1, 1)))
        for spot in peaks(field):
            self.assertEqual(lowered(field, spot), lowered(field, spot, rule=(1, 1)))

    def test_the_rule_stands_behind_the_star(self):
        with self.assertRaises(TypeError):
            raised(HOLLOW, (1, 1), (1, 1))
        with self.assertRaises(TypeError):
            lowered(PEAK, (1, 1), (1, 1))

    def test_long_worths(self):
        long_worths = rows_by(3, 3, lambda x, y: (SIXTY * 10 ** 900 + x + 3 * y, SIXTY ** 16 - 1))
        field = (HOLLOW[0], rows_by(3, 3, lambda x, y: lowest_terms(long_worths[y][x])))
        other = raised(field, (1, 1), rule=(9, -9))
        self.assertEqual(other, deed_done(field, ("up", 1, 1), (9, -9)))
        self.assertEqual(lowered(other, (1, 1), rule=(9, -9)), field)

    def test_no_hollow_and_no_peak_with_their_spot(self):
        for field in (HOLLOW, PEAK, random_field(5, 5, 1), flat_field(5, 5), flat_field(2, 2)):
            for step, (_, function, kind) in zip((1, -1), SINGLE):
                for x, y in places_of(field[0]):
                    if not can_go(field[0], x, y, step):
                        with self.assertRaises(kind) as caught:
                            function(field, (x, y))
                        self.assertEqual(caught.exception.spot, (x, y))

    def test_none_on_the_rim_whatever_stands_at_the_other_side_of_the_board(self):
        for wide, high in SIZES:
            flat = flat_field(wide, high)
            for field in (flat, (rows_by(wide, high, lambda x, y: -((x + y) % 2)), flat[1])):
                for x, y in places_of(field[0]):
                    if lacks_one(x, y, wide, high) and (wide * high < 40 or (x + y) % 3 == 0):
                        for _, function, kind in SINGLE:
                            self.assertRaises(kind, function, field, (x, y))

    def test_nought_with_its_spot(self):
        for heights, function in ((HOLLOW[0], raised), (PEAK[0], lowered)):
            field = (heights, rows_by(3, 3, lambda x, y: ONE))
            for rule, sign in (((1, -1), 1), ((-3, 3), 1), ((1, 1), -1), ((9, 9), -1)):
                zero = with_worth(field, (0, 1), (sign, 1))
                with self.assertRaises(Nought) as caught:
                    function(zero, (1, 1), rule=rule)
                self.assertEqual(caught.exception.spot, (1, 1))
                almost = with_worth(field, (0, 1), (sign * (SIXTY + 1), SIXTY))
                self.assertEqual(function(almost, (1, 1), rule=rule),
                                 deed_done(almost, ("up" if function is raised else "down", 1, 1), rule))

    def test_by_good_rules_and_worths_above_0_never_nought(self):
        field = (flat_field(5, 5)[0], rows_by(5, 5, lambda x, y: (1 + x, 1 + y) if x != y else ONE))
        field = (field[0], rows_by(5, 5, lambda x, y: lowest_terms(field[1][y][x])))
        for rule in ((1, 1), (9, 2)):
            for spot in hollows(field):
                self.assertGreater(worth_of(raised(field, spot, rule=rule), spot)[0], 0)


def lowest_terms(pair):
    value = Fraction(*pair)
    return (value.numerator, value.denominator)


class SeveralAtOnce(unittest.TestCase):
    def test_none(self):
        for _, function, _ in SEVERAL:
            for field in (HOLLOW, PEAK, flat_field(1, 1)):
                self.assertEqual(function(field, ()), field)
                self.assertEqual(function(field=field, some=(), rule=(2, 3)), field)

    def test_one(self):
        self.assertEqual(raised_all(HOLLOW, ((1, 1),), rule=(2, -3)), raised(HOLLOW, (1, 1), rule=(2, -3)))
        self.assertEqual(lowered_all(PEAK, ((1, 1),), rule=(2, -3)), lowered(PEAK, (1, 1), rule=(2, -3)))

    def test_as_one_behind_the_other_in_all_orders(self):
        for step, (word, function, _) in zip((1, -1), SEVERAL):
            field = (rows_by(5, 5, lambda x, y: step * ((x + y) % 2)), worths_for(5, 5))
            every = spots_with(field, step)
            self.assertEqual(len(every), 5)
            for many in range(6):
                for some in itertools.combinations(every, many):
                    told = function(field, some, rule=(2, 3))
                    for order in itertools.permutations(some):
                        reached = field
                        for spot in order:
                            reached = deed_done(reached, (word,) + spot, (2, 3))
                        self.assertEqual(told, reached)

    def test_all_of_the_hollows_and_peaks_of_some_fields(self):
        for wide, high in [(5, 5), (11, 11), (6, 3), (2, 9)]:
            for seed, rule in itertools.product(range(4), GOOD_AND_BAD):
                field = random_field(wide, high, seed)
                for step, (word, function, _) in zip((1, -1), SEVERAL):
                    some = spots_with(field, step)
                    reached = field
                    for spot in some[::-1]:
                        reached = deed_done(reached, (word,) + spot, rule)
                    self.assertEqual(function(field, some, rule=rule), reached)

    def test_what_is_no_rising_tuple_of_spots(self):
        field = flat_field(5, 5)
        wrong = [[], [(1, 1)], None, {}, {(1, 1): 1}, {(1, 1)}, "", "ab", 1, (1, 1), ((1, 1), (1, 1)),
                 ((1, 1), (1, 1), (2, 2)), ((1, 3), (1, 1)), ((2, 2), (1, 3)), ((1, 1), (3, 3), (2, 2)), ([1, 1],),
                 ((1, 1), [2, 2]), ((True, 1),),
                 ((1, True),), ((1, 1), (5, 5)), ((-1, 1),), ((1, 5),), ((1.0, 1),), ((1, 1, 1),), ((1,),), (None,),
                 ((1, 1), None), (((1, 1),),), iter([(1, 1)]), range(2), ((10 ** 999, 1),), True]
        for _, function, _ in SEVERAL:
            for thing in wrong + [thing for thing in ODD_THINGS if thing != ()]:
                with self.assertRaises(BadSpot, msg=repr(thing)):
                    function(field, thing)
            for thing in no_spots(5, 5):
                self.assertRaises(BadSpot, function, field, (thing,))
                self.assertRaises(BadSpot, function, field, ((0, 0), thing))
        for _, function, _ in SINGLE:
            for thing in no_spots(5, 5) + [(), ((1, 1),)]:
                self.assertRaises(BadSpot, function, field, thing)

    def test_the_first_refusal_that_is_due(self):
        flat = (flat_field(7, 5)[0], rows_by(7, 5, lambda x, y: ONE))
        # By (1, -1) each HOLLOW comes to nought; that at (3, 1) by no means, where one worth beside it is 2.
        field = with_worth(flat, (4, 1), (2, 1))
        cases = [(((1, 1), (2, 1)), Nought, (1, 1)), (((1, 2), (1, 3)), NoHollow, (1, 2)),
                 (((3, 1), (3, 3), (4, 1)), Nought, (3, 3)), (((3, 1), (4, 1), (5, 3)), NoHollow, (4, 1)),
                 (((0, 0), (1, 1)), NoHollow, (0, 0)), (((3, 1), (6, 4)), NoHollow, (6, 4))]
        for some, kind, spot in cases:
            with self.assertRaises(kind) as caught:
                raised_all(field, some, rule=(1, -1))
            self.assertEqual(caught.exception.spot, spot)
        upside = (rows_by(7, 5, lambda x, y: -field[0][y][x]), field[1])
        for some, kind, spot in cases:
            with self.assertRaises(NoPeak if kind is NoHollow else kind) as caught:
                lowered_all(upside, some, rule=(1, -1))
            self.assertEqual(caught.exception.spot, spot)
        self.assertEqual(raised_all(field, ((3, 1),), rule=(1, -1)), deed_done(field, ("up", 3, 1), (1, -1)))

    def test_what_becomes_one_only_by_another_deed(self):
        field = (((0, 1, 2, 1), (1, 0, 1, 2), (0, 1, 2, 1)), worths_for(4, 3))
        self.assertEqual(hollows(field), ((1, 1),))
        behind = raised(field, (1, 1))
        self.assertEqual(hollows(behind), ((2, 1),))
        with self.assertRaises(NoHollow) as caught:
            raised_all(field, ((1, 1), (2, 1)))
        self.assertEqual(caught.exception.spot, (2, 1))
        upside = (rows_by(4, 3, lambda x, y: -field[0][y][x]), field[1])
        with self.assertRaises(NoPeak) as caught:
            lowered_all(upside, ((1, 1), (2, 1)))
        self.assertEqual(caught.exception.spot, (2, 1))

    def test_deeds_at_spots_that_are_no_neighbours_leave_each_other(self):
        for seed in range(6):
            field = chance_field(7, 7, seed, ((1, 1), (2, 1), (3, 1), (5, 7)))
            for hollow, peak in itertools.product(hollows(field), peaks(field)):
                if abs(hollow[0] - peak[0]) + abs(hollow[1] - peak[1]) > 1:
                    one = lowered(raised(field, hollow), peak)
                    self.assertEqual(one, raised(lowered(field, peak), hollow))
                else:
                    self.assertNotIn(peak, peaks(raised(field, hollow)))
                    self.assertNotIn(hollow, hollows(lowered(field, peak)))


class Refused(unittest.TestCase):
    def test_bad_rule_of_anything_behind_spots_ahead_of_deeds(self):
        flat = flat_field(5, 5)
        for _, function, _ in SINGLE:
            for rule in NO_RULES:
                for spot in [(1, 1), (1, 2), (0, 0)]:
                    self.assertRaises(BadRule, function, flat, spot, rule=rule)
                self.assertRaises(BadSpot, function, flat, (5, 5), rule=rule)
                self.assertRaises(BadField, function, flat[:1], (5, 5), rule=rule)
        for _, function, _ in SEVERAL:
            for rule in NO_RULES:
                for some in [(), ((1, 1),), ((0, 0), (1, 1))]:
                    self.assertRaises(BadRule, function, flat, some, rule=rule)
                self.assertRaises(BadSpot, function, flat, [(1, 1)], rule=rule)
                self.assertRaises(BadField, function, flat[:1], [], rule=rule)

    def test_bad_field_ahead_of_all_else(self):
        for place, thing in NO_FIELDS:
            for call in [lambda: hollows(thing), lambda: peaks(thing), lambda: raised(thing, None, rule=None),
                         lambda: lowered(thing, None, rule=None), lambda: raised_all(thing, None, rule=None),
                         lambda: lowered_all(thing, None, rule=None)]:
                with self.assertRaises(BadField) as caught:
                    call()
                self.assertEqual(caught.exception.place, place)


class Rows(unittest.TestCase):
    def test_many_deeds_one_behind_the_other(self):
        for wide, high in [(5, 5), (11, 11), (3, 8)]:
            heights, worths = field = random_field(wide, high, "many")
            row = wander(heights, 60, "many")
            for word, x, y in row:
                told = outcome(raised if word == "up" else lowered, field, (x, y), rule=(2, 3))
                self.assertEqual(told, outcome(deed_done, field, (word, x, y), (2, 3)))
                if told[0] != "told":
                    break
                field = told[1]
            else:
                self.assertEqual(field[0], heights_behind(heights, row))


if __name__ == "__main__":
    unittest.main()
