"""hollowrise.flats: FLAT FIELDS, and how many FLOORS there are."""

import itertools
import unittest
from fractions import Fraction

from hollowrise.errors import BadField, BadFraction, BadOrder, BadRule, BadSpot, BadTarget, TooGreat
from hollowrise.fields import is_field, upside_down
from hollowrise.flats import flat, flat_target, flat_worth, is_flat, leaning, order_of, told_floors
from hollowrise.pairings import how_many, pairing_worth, pairings, rule_counts, worth_by_pairings
from hollowrise.reach import worth_at
from tests.plain import ONE, RULES, heights_done, is_inner, places_of
from tests.plain_webs import closed_by_hand, low_heights, pair, top_at, web_by_hand, way_by_hand, words_at, corners_of
from tests.samples import ODD_THINGS, SIZES, flat_field, random_field, rows_by, steep_field
from tests.test_deeds import NO_RULES
from tests.test_fields import NO_FIELDS, no_spots
from tests.test_targets import no_targets

FLAT = flat_field(7, 7)
HIGH = (heights_done(FLAT[0], ("up", 3, 3)), FLAT[1])
LOW = (heights_done(FLAT[0], ("down", 3, 2)), FLAT[1])


def no_numbers(least, most):
    """Things that are no whole number within bounds."""
    wrong = [thing for thing in ODD_THINGS if type(thing) is not int or not least <= thing <= most]
    return wrong + [least - 1, most + 1, -most, 10 ** 999, -10 ** 999, float(least), (least,), str(most), True, False]


class Flat(unittest.TestCase):
    def test_by_hand(self):
        self.assertEqual(flat(3, 2), (((0, 1, 0), (1, 0, 1)), ((ONE, ONE, ONE), (ONE, ONE, ONE))))
        self.assertEqual(flat(wide=1, high=1), (((0,),), ((ONE,),)))

    def test_all_boards(self):
        for wide, high in SIZES:
            told = flat(wide, high)
            self.assertEqual(told, (flat_field(wide, high)[0], rows_by(wide, high, lambda x, y: ONE)))
            self.assertIs(is_field(told), True)
            self.assertIs(is_flat(told), True)

    def test_bad_order_of_anything(self):
        for thing in no_numbers(1, 11):
            self.assertRaises(BadOrder, flat, thing, 3)
            self.assertRaises(BadOrder, flat, 3, thing)
            self.assertRaises(BadOrder, flat, thing, thing)

    def test_is_flat(self):
        for wide, high in SIZES:
            self.assertIs(is_flat(flat_field(wide, high)), True)
            self.assertIs(is_flat(field=steep_field(wide, high, 34)), False)
            field = random_field(wide, high, "flat")
            self.assertIs(is_flat(field), all(height in (0, 1) for row in field[0] for height in row))
        for field in (HIGH, LOW, upside_down(FLAT)):
            self.assertIs(is_flat(field), False)
        for place, thing in NO_FIELDS:
            with self.assertRaises(BadField) as caught:
                is_flat(thing)
            self.assertEqual(caught.exception.place, place)


class FlatWorth(unittest.TestCase):
    def test_by_hand(self):
        self.assertEqual([flat_worth(n) for n in range(10)], [2 ** (n * (n - 1) // 2) for n in range(10)])
        self.assertEqual(flat_worth(n=3, rule=(2, 3)), 125)
        self.assertEqual([flat_worth(n, rule=(1, -1)) for n in range(5)], [1, 1, 0, 0, 0])
        self.assertEqual(flat_worth(9, rule=(9, 9)), 18 ** 36)
        self.assertEqual(flat_worth(2, rule=(-9, -9)), -18)

    def test_is_the_sum_of_ones(self):
        field = flat(11, 11)
        for n, rule in itertools.product(range(0, 6), RULES):
            target = (5, 5, n) if n % 2 == 0 else (5, 4, n)
            if how_many(field, target) <= 4096:
                self.assertEqual(worth_by_pairings(field, target, rule=rule), (flat_worth(n, rule=rule), 1))

    def test_by_the_rule(self):
        for n, rule in itertools.product(range(1, 9), RULES):
            a, b = rule
            self.assertEqual(flat_worth(n + 1, rule=rule) * flat_worth(n - 1, rule=rule),
                             (a + b) * flat_worth(n, rule=rule) ** 2)

    def test_refused(self):
        for thing in no_numbers(0, 9):
            if not (type(thing) is int and 0 <= thing <= 9):
                self.assertRaises(BadOrder, flat_worth, thing)
                self.assertRaises(BadOrder, flat_worth, thing, rule=None)
        for rule in NO_RULES:
            self.assertRaises(BadRule, flat_worth, 3, rule=rule)
        self.assertRaises(TypeError, flat_worth, 3, (1, 1))


class Targets(unittest.TestCase):
    def test_flat_target(self):
        for wide, high in SIZES:
            field = flat_field(wide, high)
            for x, y in places_of(field[0]):
                told = flat_target(field=field, spot=(x, y))
                self.assertEqual(told, (x, y, top_at(field[0], x, y)))
                if not is_inner(field[0], x, y):
                    self.assertEqual(told[2], (x + y) % 2)
        self.assertEqual(flat_target(flat(11, 11), (5, 5)), (5, 5, 6))
        self.assertEqual(flat_target(flat(11, 11), (4, 5)), (4, 5, 5))

    def test_closed_are_those_within_n_less_2_and_no_corner_has_two_knots(self):
        field = flat(9, 9)
        for x, y in places_of(field[0]):
            for n in range((x + y) % 2, top_at(field[0], x, y) + 1, 2):
                self.assertEqual(closed_by_hand(field[0], (x, y, n)),
                                 [spot for spot in places_of(field[0]) if way_by_hand(spot, (x, y)) <= n - 2])
                self.assertTrue(all(way_by_hand(*tie) == 1 for tie in web_by_hand(field[0], (x, y, n))))
        self.assertEqual({word for corner in corners_of(field[0]) for word in words_at(field[0], corner)}, {"all"})

    def test_order_of(self):
        field = flat_field(9, 8)
        for x, y in places_of(field[0]):
            for n in range((x + y) % 2, top_at(field[0], x, y) + 1, 2):
                if n >= 2:
                    self.assertEqual(order_of(field=field, target=(x, y, n)), n - 1)
                else:
                    self.assertRaises(BadTarget, order_of, field, (x, y, n))

    def test_refused_in_order(self):
        for field in (HIGH, LOW, steep_field(3, 3, 10)):
            for call in (lambda: flat_target(field, None), lambda: order_of(field, None)):
                with self.assertRaises(BadField) as caught:
                    call()
                self.assertEqual(caught.exception.place, "flat")
        for place, thing in NO_FIELDS:
            for call in (lambda: flat_target(thing, None), lambda: order_of(thing, None)):
                with self.assertRaises(BadField) as caught:
                    call()
                self.assertEqual(caught.exception.place, place)
        for thing in no_spots(7, 7):
            self.assertRaises(BadSpot, flat_target, FLAT, thing)
        for thing in no_targets((3, 3, 4)):
            if thing != (3, 3, 2):
                self.assertRaises(BadTarget, order_of, FLAT, thing)


class Leaning(unittest.TestCase):
    def worth(self, q, v, height):
        often = v * (v + 1) // 2
        return pair(Fraction(*q) ** (often if height else -often))

    def test_by_hand(self):
        # F is 3, 1, 0, 0, 1 from two rows south of the base on: V is -3, -2, -1, 0, 1 by the base 3.
        told = leaning(flat(2, 5), 3, (2, 3))
        self.assertEqual(told[0], flat_field(2, 5)[0])
        self.assertEqual(told[1], (((27, 8), (8, 27)), ((2, 3), (3, 2)), (ONE, ONE), (ONE, ONE), ((3, 2), (2, 3))))

    def test_all_boards_and_bases(self):
        for (wide, high), base, q in itertools.product([(1, 1), (4, 3), (3, 11), (11, 4)], range(11),
                                                       [(1, 1), (3, 1), (2, 5)]):
            for field in (flat_field(wide, high), random_field(wide, high, "leaning")):
                told = leaning(field=field, base=base, q=q)
                self.assertIs(is_flat(told), True)
                self.assertEqual(told[1], rows_by(wide, high, lambda x, y: self.worth(q, y - base, (x + y) % 2)))

    def test_the_sum_of_t9(self):
        for q, base, rule in itertools.product([(2, 1), (3, 2)], (0, 4, 9), [(1, 1), (2, -3)]):
            field = leaning(flat(9, 9), base, q)
            for target in [(4, 4, 2), (4, 3, 3), (4, 4, 4), (3, 4, 1), (2, 3, 3)]:
                x, y, n = target
                often = (y - base) * (y - base + 1) // 2
                value = Fraction(*q) ** ((2 * n - 1) * often)
                for k in range(1, n):
                    value *= (rule[0] + rule[1] * Fraction(*q) ** (2 * k - 1)) ** (n - k)
                self.assertEqual(worth_at(field, *target, rule=rule), pair(value))
                self.assertEqual(worth_by_pairings(field, target, rule=rule), pair(value))

    def test_refused_in_order(self):
        for place, thing in NO_FIELDS:
            with self.assertRaises(BadField) as caught:
                leaning(thing, None, None)
            self.assertEqual(caught.exception.place, place)
        for thing in no_numbers(0, 10):
            if not (type(thing) is int and 0 <= thing <= 10):
                self.assertRaises(BadOrder, leaning, HIGH, thing, None)
        for thing in ODD_THINGS + [(0, 1), (-1, 2), (2, 2), (1, 0), (1, -1), (-1, -1), [1, 2], (True, 2), (1, True), 1]:
            if thing != (1, 2) or type(thing) is not tuple:
                self.assertRaises(BadFraction, leaning, HIGH, 0, thing)
        self.assertIs(is_flat(leaning(HIGH, 0, (1, 2))), True)
        self.assertRaises(BadFraction, leaning, flat(3, 1), 0, (0, 1))

    def test_too_great_with_1000(self):
        # By the base 0 the farthest row of 11 has F 55, that of 2 has 1; by the base 10 row 0 has 45.
        below = 10 ** 1000 - 1
        for high, base, often in ((11, 0, 55), (2, 0, 1), (1, 10, 45), (3, 2, 1), (11, 5, 15)):
            root = integer_root(below, often)
            for q in ((root, 1), (1, root)):
                told = leaning(flat(3, high), base, q)
                self.assertEqual(max(max(worth) for row in told[1] for worth in row), root ** often)
            for q in ((root + 1, 1), (1, root + 1), (root + 1, root)):
                with self.assertRaises(TooGreat) as caught:
                    leaning(flat(3, high), base, q)
                self.assertEqual(caught.exception.most, 1000)
        for q in ((below + 1, 1), (1, below + 1), (below + 1, below), (below, below + 1)):
            self.assertRaises(TooGreat, leaning, flat(3, 2), 0, q)
        self.assertEqual(leaning(flat(3, 1), 0, (10 ** 3000, 1)), flat(3, 1))

    def test_however_long_a_fraction_is(self):
        # What has so many figures would never be worked out.
        for q in ((10 ** 40000 + 1, 1), (7 ** 40000, 10), (1, 10 ** 40000), (3, 2 ** 90000), (2 ** 90000, 3 ** 50)):
            for (wide, high), base in itertools.product([(9, 9), (2, 11), (1, 2), (3, 3)], range(11)):
                # V is 0, or one less, in each row of a BOARD whose WORTHS are all 1.
                if all(v in (-1, 0) for v in range(-base, high - base)):
                    self.assertEqual(leaning(flat(wide, high), base, q), flat(wide, high))
                else:
                    with self.assertRaises(TooGreat) as caught:
                        leaning(flat(wide, high), base, q)
                    self.assertEqual(caught.exception.most, 1000)
        for q in ((10 ** 40000, 1), (1, 10 ** 40000)):
            self.assertEqual(leaning(flat(11, 1), 0, q), flat(11, 1))
            self.assertEqual(leaning(flat(11, 1), 1, q), flat(11, 1))
            self.assertEqual(leaning(flat(2, 2), 1, q), flat(2, 2))
            self.assertRaises(TooGreat, leaning, flat(2, 2), 0, q)
            self.assertRaises(TooGreat, leaning, flat(2, 2), 2, q)
            self.assertRaises(BadOrder, leaning, flat(9, 9), None, q)
        self.assertRaises(BadFraction, leaning, flat(9, 9), 0, (10 ** 4000, 10))
        self.assertRaises(BadFraction, leaning, flat(9, 9), 0, (-10 ** 4000, 1))

    def test_the_bound_bit_by_bit(self):
        # Of each number of bits round the bound the least and the greatest.
        for high, base, often in ((2, 0, 1), (3, 0, 3), (4, 0, 6), (5, 0, 10), (1, 3, 3), (1, 4, 6)):
            for bits in range(3315 // often - 1, 3330 // often + 3):
                for number in (2 ** bits - 1, 2 ** bits, 2 ** bits + 1):
                    for q in ((number, 1), (1, number)):
                        try:
                            told = leaning(flat(2, high), base, q)
                        except TooGreat:
                            self.assertGreaterEqual(number ** often, 10 ** 1000)
                        else:
                            self.assertLess(number ** often, 10 ** 1000)
                            self.assertIn(number ** often, [worth[0] for row in told[1] for worth in row])


def integer_root(number, often):
    """The greatest whole number that to this power is no more."""
    low, high = 1, 1
    while high ** often <= number:
        high *= 2
    while high - low > 1:
        middle = (low + high) // 2
        if middle ** often <= number:
            low = middle
        else:
            high = middle
    return low


class Floors(unittest.TestCase):
    def test_by_hand(self):
        self.assertEqual(told_floors(1), {(0, 0): 1, (1, 1): 1})
        # (1 + P Q) ** 2 * (1 + P Q ** 3).
        self.assertEqual(told_floors(order=2), {(0, 0): 1, (1, 1): 2, (2, 2): 1, (3, 1): 1, (4, 2): 2, (5, 3): 1})

    def test_keys_rising_and_none_0(self):
        for order in range(1, 9):
            told = told_floors(order)
            self.assertIs(type(told), dict)
            self.assertEqual(list(told), sorted(told))
            self.assertGreater(min(told.values()), 0)
            self.assertEqual(sum(told.values()), 2 ** (order * (order + 1) // 2))
            most = max(told)
            self.assertEqual(most, (order * (order + 1) * (2 * order + 1) // 6, order * (order + 1) // 2))
            self.assertEqual(told[most], 1)

    def test_the_product(self):
        for order, (p, q) in itertools.product(range(1, 9), [(1, 1), (2, 3), (-1, 2), (5, -1), (-3, -2)]):
            value = 1
            for k in range(1, order + 1):
                value *= (1 + p * q ** (2 * k - 1)) ** (order + 1 - k)
            self.assertEqual(sum(many * p ** standing * q ** lifts
                                 for (lifts, standing), many in told_floors(order).items()), value)

    def test_as_many_stand_as_can_be_taken(self):
        for order in range(1, 9):
            row, total = [1], order * (order + 1) // 2
            for _ in range(total):
                row = [a + b for a, b in zip([0] + row, row + [0])]
            found = [0] * (total + 1)
            for (_, standing), many in told_floors(order).items():
                found[standing] += many
            self.assertEqual(found, row)

    def test_against_all_pairings(self):
        for order in range(1, 5):
            field, q = leaning(flat(11, 11), 5, (2, 1)), 2
            target = (5, 5, order + 1) if order % 2 == 1 else (4, 5, order + 1)
            found = {}
            for pairing in pairings(field, target):
                often_a, often_b = rule_counts(field, target, pairing)
                self.assertEqual(often_a + often_b, order * (order + 1) // 2)
                above, below = pairing_worth(field, target, pairing)
                lifts = above.bit_length() - below.bit_length()
                self.assertEqual(Fraction(above, below), Fraction(q) ** lifts)
                found[lifts, often_b] = found.get((lifts, often_b), 0) + 1
            self.assertEqual(found, told_floors(order))

    def test_a_new_dict_each_time(self):
        told = told_floors(3)
        kept = dict(told)
        told.clear()
        self.assertEqual(told_floors(3), kept)

    def test_bad_order_of_anything(self):
        for thing in no_numbers(1, 8):
            self.assertRaises(BadOrder, told_floors, thing)


class Upside(unittest.TestCase):
    def test_low_heights_are_not_flat(self):
        self.assertIs(is_flat((low_heights(6, 6, "flat", 20), rows_by(6, 6, lambda x, y: ONE))), False)


if __name__ == "__main__":
    unittest.main()
