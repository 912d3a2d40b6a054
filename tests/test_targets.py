"""hollowrise.targets: TARGETS, CLOSED and OPEN SPOTS, the FIELD OF A TARGET."""

import itertools
import unittest

from hollowrise.errors import BadField, BadRule, BadSpot, BadTarget, Nought
from hollowrise.fields import is_field, turned, with_worth
from hollowrise.heights import apart, lesser
from hollowrise.reach import worth_at
from hollowrise.rows import first_row
from hollowrise.targets import cone, field_of, first_rising, is_closed, is_open, need_target
from tests.plain import (
    ONE, RULES, bounds_at, chance_field, deed_done, first_by_hand, is_inner, outcome, places_of, row_done, wander)
from tests.plain_webs import (
    closed_by_hand, field_on, low_heights, open_by_hand, some_heights, target_heights, targets_of, top_at)
from tests.samples import (
    ODD_THINGS, SIZES, claims, flat_field, random_field, random_heights, rows_by, steep_field, worths_for)
from tests.test_deeds import NO_RULES
from tests.test_fields import NO_FIELDS, no_spots

FLAT = flat_field(5, 5)
ONES = (FLAT[0], rows_by(5, 5, lambda x, y: ONE))


def no_targets(target):
    """Things that are no TARGET of whatever FIELD has this one."""
    x, y, n = target
    wrong = [thing for thing in ODD_THINGS if thing != target]
    wrong += [[x, y, n], (x, y), (x, y, n, n), ((x, y), n), (x, y, n + 1), (x, y, n - 1), (-1, y, n), (x, -1, n),
              (11, y, n), (x, 11, n), (x, y, 10 ** 999), (x, y, -10 ** 999), (10 ** 999, y, n), (x, y, float(n)),
              (float(x), y, n), (x, float(y), n), (x, y, None), (None, y, n), (x, None, n), (x, y, str(n)),
              (str(x), y, n), (x, y, (n,)), ((x,), y, n), (x, y, [n]), f"{x}{y}{n}", {x: 0, y: 1, n: 2}]
    wrong += [(bool(x), y, n), (x, bool(y), n), (x, y, bool(n))]
    return wrong


def calls(field, spot=None):
    """All that asks for a TARGET, each with what else it wants, rightly."""
    return [lambda target: need_target(field, target), lambda target: is_closed(field, target, spot),
            lambda target: is_open(field, target, spot), lambda target: cone(field, target),
            lambda target: field_of(field, target), lambda target: field_of(field, target, rule=None),
            lambda target: first_rising(field, target)]


class NeedTarget(unittest.TestCase):
    def test_by_hand(self):
        for target in [(2, 2, 0), (2, 2, 2), (1, 1, 2), (1, 2, 1), (0, 0, 0), (0, 1, 1)]:
            self.assertIsNone(need_target(FLAT, target))
        for target in [(2, 2, -2), (2, 2, 4), (2, 2, 1), (1, 1, 4), (1, 2, 3), (0, 0, 2), (0, 1, 3), (0, 1, -1)]:
            self.assertRaises(BadTarget, need_target, FLAT, target)
        self.assertIsNone(need_target(field=FLAT, target=(2, 2, 2)))

    def test_each_height_from_far_below_to_far_above(self):
        for wide, high in SIZES:
            fields = [random_field(wide, high, "target")]
            if wide == high or (wide, high) in [(1, 11), (11, 1), (3, 10), (7, 4)]:
                fields += [steep_field(wide, high, 34), steep_field(wide, high, -35), flat_field(wide, high),
                           field_on(low_heights(wide, high, "target", 35))]
            for field in fields:
                for x, y in places_of(field[0]):
                    if wide * high > 12 and (3 * x + 5 * y + wide) % 11 and (x, y) != (wide // 2, high // 2):
                        continue
                    low, top = field[0][y][x], top_at(field[0], x, y)
                    for n in [-10 ** 20, *range(low - 4, top + 5), 10 ** 20]:
                        if low <= n <= top and (n + x + y) % 2 == 0:
                            self.assertIsNone(need_target(field, (x, y, n)))
                        else:
                            self.assertRaises(BadTarget, need_target, field, (x, y, n))

    def test_beyond_the_board(self):
        # A slope in each direction, so that what stands across would do.
        slopes = [rows_by(wide, high, lambda x, y: a * x + b * y) for a in (1, -1) for b in (1, -1)
                  for wide, high in ((2, 2), (1, 4), (4, 1), (4, 5))]
        for heights in slopes + [random_heights(4, 6, "beyond")]:
            field = field_on(heights)
            wide, high = len(heights[0]), len(heights)
            for x, y in itertools.product(range(-2, wide + 2), range(-2, high + 2)):
                if not (0 <= x < wide and 0 <= y < high):
                    for n in range(-12, 13):
                        self.assertRaises(BadTarget, need_target, field, (x, y, n))

    def test_on_the_rim_its_own_height_alone(self):
        for field in (random_field(4, 6, "rim"), steep_field(11, 11, 34), flat_field(1, 1), flat_field(2, 9)):
            for x, y in places_of(field[0]):
                if not is_inner(field[0], x, y):
                    self.assertEqual([target for target in targets_of(field[0]) if target[:2] == (x, y)],
                                     [(x, y, field[0][y][x])])
                    for step in (-4, -2, 2, 4, 40, 80):
                        self.assertRaises(BadTarget, need_target, field, (x, y, field[0][y][x] + step))

    def test_as_high_as_the_spot_can_be_brought(self):
        for heights in some_heights():
            for x, y in places_of(heights):
                self.assertEqual(top_at(heights, x, y), bounds_at(heights, x, y)[1])

    def test_the_highest_of_all(self):
        steep = steep_field(11, 11, 34)
        self.assertIsNone(need_target(steep, (5, 5, 40)))
        self.assertRaises(BadTarget, need_target, steep, (5, 5, 42))
        low = field_on(low_heights(11, 11, "most", 35))
        self.assertIsNone(need_target(low, (5, 5, bounds_at(low[0], 5, 5)[1])))

    def test_of_anything(self):
        for field, target in [(FLAT, (2, 2, 2)), (FLAT, (1, 1, 2)), (flat_field(1, 1), (0, 0, 0)),
                              (FLAT, (1, 2, 1)), (steep_field(11, 11, 34), (5, 5, 40))]:
            good = targets_of(field[0])
            wrong = [thing for thing in no_targets(target) if thing not in good or list(map(type, thing)) != [int] * 3]
            self.assertGreater(len(wrong), 60)
            for call in calls(field):
                for thing in wrong:
                    self.assertRaises(BadTarget, call, thing)

    def test_what_claims_to_be_one(self):
        for field, target in [(FLAT, (2, 2, 2)), (FLAT, (1, 1, 0)), (FLAT, (0, 1, 1)), (flat_field(1, 1), (0, 0, 0))]:
            for call in calls(field):
                for thing in claims(target):
                    self.assertRaises(BadTarget, call, thing)

    def test_bad_field_ahead_of_all_else(self):
        for place, thing in NO_FIELDS:
            for call in calls(thing):
                with self.assertRaises(BadField) as caught:
                    call(None)
                self.assertEqual(caught.exception.place, place)


class ClosedAndOpen(unittest.TestCase):
    def test_by_hand(self):
        # (2, 2) stands two beneath: itself alone is CLOSED; its NEIGHBOURS stand at 1, the ones of these at 0: OPEN.
        told = {spot: (is_closed(FLAT, (2, 2, 2), spot), is_open(FLAT, (2, 2, 2), spot)) for spot in places_of(FLAT[0])}
        self.assertEqual([spot for spot in told if told[spot] == (True, False)], [(2, 2)])
        self.assertEqual([spot for spot in told if told[spot] == (False, True)],
                         [(0, 2), (1, 1), (1, 2), (1, 3), (2, 0), (2, 1), (2, 3), (2, 4), (3, 1), (3, 2), (3, 3),
                          (4, 2)])
        self.assertEqual([spot for spot in told if told[spot] == (False, False)],
                         [spot for spot in places_of(FLAT[0]) if abs(spot[0] - 2) + abs(spot[1] - 2) > 2])
        self.assertEqual(cone(FLAT, (2, 2, 2)), ((2, 2),))
        # (3, 4) stands at 1, so what is no more than one away is CLOSED for (3, 4, 3).
        self.assertEqual(cone(flat_field(7, 7), (3, 4, 3)), ((2, 4), (3, 3), (3, 4), (3, 5), (4, 4)))

    def test_all_spots_of_many_targets(self):
        for heights in some_heights():
            field = field_on(heights)
            for target in targets_of(heights)[::3]:
                closed, wide_open = closed_by_hand(heights, target), open_by_hand(heights, target)
                self.assertEqual(cone(field, target), tuple(closed))
                for spot in places_of(heights):
                    self.assertIs(is_closed(field, target, spot), spot in closed)
                    self.assertIs(is_open(field=field, target=target, spot=spot), spot in wide_open)

    def test_none_of_the_rim_is_closed_and_each_neighbour_of_a_closed_one_is_closed_or_open(self):
        for wide, high in SIZES:
            heights = low_heights(wide, high, "none", 35)
            field = field_on(heights)
            target = (wide // 2, high // 2, top_at(heights, wide // 2, high // 2))
            closed, wide_open = cone(field, target), open_by_hand(heights, target)
            for x, y in closed:
                self.assertTrue(is_inner(heights, x, y))
                for near in [(x - 1, y), (x, y - 1), (x, y + 1), (x + 1, y)]:
                    self.assertTrue(near in closed or near in wide_open)

    def test_of_a_target_that_stands_on_the_field(self):
        for heights in some_heights():
            for x, y in places_of(heights):
                target = (x, y, heights[y][x])
                self.assertEqual(cone(field_on(heights), target), ())
                self.assertIs(is_open(field_on(heights), target, (x, y)), True)

    def test_bad_spot_behind_bad_target(self):
        for function in (is_closed, is_open):
            for thing in no_spots(5, 5):
                self.assertRaises(BadSpot, function, FLAT, (2, 2, 2), thing)
                self.assertRaises(BadTarget, function, FLAT, (2, 2, 4), thing)
                self.assertRaises(BadField, function, FLAT[:1], (2, 2, 4), thing)


class FieldOf(unittest.TestCase):
    def test_by_hand(self):
        told = field_of(ONES, (2, 2, 2), rule=(2, 3))
        self.assertEqual(told, deed_done(ONES, ("up", 2, 2), (2, 3)))
        self.assertEqual(first_rising(ONES, (2, 2, 2)), (("up", 2, 2),))
        self.assertEqual(first_rising(flat_field(7, 7), (3, 4, 3)),
                         (("up", 2, 4), ("up", 3, 3), ("up", 3, 5), ("up", 4, 4), ("up", 3, 4)))

    def test_against_raising_by_hand(self):
        for number, heights in enumerate(some_heights()):
            rule = RULES[number % len(RULES)]
            field = field_on(heights)
            for target in targets_of(heights)[::4]:
                behind = target_heights(heights, target)
                row = first_by_hand(heights, behind)
                self.assertEqual(first_rising(field=field, target=target), row)
                self.assertEqual(first_rising(field, target), first_row(heights, behind))
                self.assertTrue(all(word == "up" for word, _, _ in row))
                self.assertEqual(outcome(field_of, field, target, rule=rule), outcome(row_done, field, row, rule))

    def test_is_a_field_of_the_same_rim_in_which_the_target_stands(self):
        for wide, high in SIZES:
            field = field_on(low_heights(wide, high, "of", 35))
            target = (wide // 2, high // 2, top_at(field[0], wide // 2, high // 2))
            told = field_of(field, target)
            self.assertIs(is_field(told), True)
            self.assertEqual(told[0], target_heights(field[0], target))
            self.assertEqual(told[1][target[1]][target[0]], worth_at(field, *target))
            self.assertEqual(apart(field[0], told[0]), len(first_rising(field, target)))

    def test_nowhere_higher_than_any_other_that_has_it_there(self):
        for seed in range(8):
            heights = random_heights(5, 6, seed, 20)
            field = field_on(heights)
            others = [row_done(field, wander(heights, 12, number))[0] for number in range(6)]
            for target in targets_of(heights):
                told = target_heights(heights, target)
                for other in others:
                    x, y, n = target
                    higher = all(other[b][a] >= heights[b][a] for a, b in places_of(heights))
                    if higher and other[y][x] == n:
                        self.assertEqual(lesser(told, other), told)

    def test_only_closed_spots_are_raised_each_as_often_as_half_of_what_it_stands_beneath(self):
        for heights in some_heights():
            for target in targets_of(heights)[::5]:
                row = first_rising(field_on(heights), target)
                behind = target_heights(heights, target)
                counted = {spot: row.count(("up",) + spot) for spot in places_of(heights)}
                self.assertEqual(sorted(spot for spot in counted if counted[spot]), closed_by_hand(heights, target))
                for (x, y), many in counted.items():
                    self.assertEqual(2 * many, behind[y][x] - heights[y][x])

    def test_all_rows_to_it_lead_to_the_same_worths(self):
        field = random_field(6, 6, "t1")
        for target in targets_of(field[0])[::5]:
            for number in range(3):
                other = outcome(row_done, field, wander(field[0], 14, number), (2, 3))
                if other[0] == "told":
                    back_there = first_by_hand(other[1][0], target_heights(field[0], target))
                    self.assertEqual(field_of(field, target, rule=(2, 3)), row_done(other[1], back_there, (2, 3)))

    def test_the_worth_hangs_on_closed_and_open_spots_alone(self):
        for heights in some_heights():
            field = field_on(heights)
            for target in targets_of(heights)[::7]:
                near = closed_by_hand(heights, target) + open_by_hand(heights, target)
                other = field
                for spot in places_of(heights):
                    if spot not in near:
                        other = with_worth(other, spot, (977, 13))
                self.assertEqual(worth_at(field, *target), worth_at(other, *target))

    def test_refused_as_led_is(self):
        refused = 0
        for seed in range(40):
            field = chance_field(5, 6, seed)
            rule = RULES[seed % len(RULES)]
            for target in targets_of(field[0]):
                row = first_by_hand(field[0], target_heights(field[0], target))
                told = outcome(field_of, field, target, rule=rule)
                self.assertEqual(told, outcome(row_done, field, row, rule))
                refused += told[0] == "Nought"
        self.assertGreater(refused, 20)
        with self.assertRaises(Nought) as caught:
            field_of(ONES, (2, 2, 2), rule=(1, -1))
        self.assertEqual(caught.exception.spot, (2, 2))

    def test_bad_rule_of_anything_behind_bad_target_ahead_of_deeds(self):
        for rule in NO_RULES:
            self.assertRaises(BadRule, field_of, ONES, (2, 2, 2), rule=rule)
            self.assertRaises(BadRule, field_of, ONES, (2, 2, 0), rule=rule)
            self.assertRaises(BadTarget, field_of, ONES, (2, 2, 4), rule=rule)
            self.assertRaises(BadField, field_of, ONES[:1], (2, 2, 4), rule=rule)
        self.assertRaises(TypeError, field_of, ONES, (2, 2, 2), (1, 1))
        self.assertEqual(field_of(FLAT, (2, 2, 2)), field_of(field=FLAT, target=(2, 2, 2), rule=(1, 1)))

    def test_turned(self):
        for heights in some_heights():
            field = field_on(heights)
            for x, y, n in targets_of(heights)[::6]:
                about = (y, x, n)
                self.assertEqual(sorted((b, a) for a, b in cone(field, (x, y, n))), list(cone(turned(field), about)))
                self.assertEqual(turned(field_of(field, (x, y, n), rule=(2, 3))),
                                 field_of(turned(field), about, rule=(3, 2)))

    def test_standing_on_the_field_nothing_is_raised(self):
        for (wide, high), spot in itertools.product([(1, 1), (5, 5), (11, 11)], [(0, 0)]):
            field = (steep_field(wide, high, 34)[0], worths_for(wide, high))
            target = spot + (field[0][0][0],)
            self.assertEqual((field_of(field, target), first_rising(field, target)), (field, ()))


if __name__ == "__main__":
    unittest.main()
