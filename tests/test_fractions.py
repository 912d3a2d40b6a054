"""hollowrise.fractions."""

import unittest
from fractions import Fraction
from math import gcd

from hollowrise.errors import BadFraction
from hollowrise.fractions import by, fraction, is_fraction, less, plus, power, so_many, times
from tests.samples import ODD_THINGS

SIXTY = 10 ** 59 + 7
NUMBERS = list(range(-13, 14)) + [SIXTY, -SIXTY, 3 * SIXTY, 10 ** 999, -10 ** 999 + 1]
SMALL = [(above, below) for above in range(-6, 7) for below in range(1, 7) if gcd(above, below) == 1]
GREAT = [(SIXTY, 1), (-SIXTY, 10 ** 59), (1, SIXTY), (6 * SIXTY, 35 * (SIXTY + 2)), (-1, 10 ** 999)]


def pair(value):
    return (value.numerator, value.denominator)


class SoMany(unittest.TestCase):
    def test_as_times_a_whole_number(self):
        for one in SMALL + GREAT:
            for number in NUMBERS:
                self.assertEqual(so_many(one, number), times(one, (number, 1)))
                self.assertEqual(so_many(one, number), pair(Fraction(*one) * number))


class IsFraction(unittest.TestCase):
    def test_all_small_pairs(self):
        for above in range(-12, 13):
            for below in range(-12, 13):
                good = below > 0 and gcd(above, below) == 1
                self.assertIs(is_fraction((above, below)), good, (above, below))

    def test_nought_has_one_form(self):
        self.assertIs(is_fraction((0, 1)), True)
        self.assertIs(is_fraction((0, 2)), False)
        self.assertIs(is_fraction((0, 0)), False)
        self.assertIs(is_fraction((0, -1)), False)

    def test_long_ones(self):
        self.assertIs(is_fraction((SIXTY, SIXTY + 1)), True)
        self.assertIs(is_fraction((2 * SIXTY, 3 * SIXTY)), False)
        self.assertIs(is_fraction((10 ** 5000, 10 ** 5000 + 1)), True)

    def test_of_anything(self):
        for thing in ODD_THINGS:
            self.assertIs(is_fraction(thing), False, thing)
        for thing in ([1, 2], (1, 2, 3), (1,), (), "12", None, 3, (True, 1), (1, True), (True, True), (False, 1),
                      (1.0, 2), (1, 2.0), ("1", "2"), (1, None), (None, 1), ((1, 1), 1), (1, (1, 1)), {1, 2},
                      Fraction(1, 2), b"ab"):
            self.assertIs(is_fraction(thing), False, thing)
        self.assertIs(is_fraction(thing=(1, 2)), True)


class MadeOfNumbers(unittest.TestCase):
    def test_by_hand(self):
        for above, below, made in [(1, 1, (1, 1)), (6, 4, (3, 2)), (-6, 4, (-3, 2)), (6, -4, (-3, 2)), (-6, -4, (3, 2)),
                                   (0, 5, (0, 1)), (0, -5, (0, 1)), (7, 1, (7, 1)), (7, -1, (-7, 1)), (4, 8, (1, 2))]:
            self.assertEqual(fraction(above, below), made)
            self.assertEqual(fraction(above=above, below=below), made)

    def test_lowest_terms_sign_above(self):
        for above in NUMBERS:
            for below in NUMBERS:
                if below != 0:
                    made = fraction(above, below)
                    self.assertEqual(made, pair(Fraction(above, below)))
                    self.assertIs(type(made), tuple)
                    self.assertTrue(is_fraction(made))

    def test_nought_below(self):
        for above in NUMBERS:
            with self.assertRaises(BadFraction):
                fraction(above, 0)


class Reckoned(unittest.TestCase):
    def test_by_hand(self):
        self.assertEqual(plus((1, 2), (1, 3)), (5, 6))
        self.assertEqual(plus((1, 2), (-1, 2)), (0, 1))
        self.assertEqual(plus((1, 6), (1, 3)), (1, 2))
        self.assertEqual(less((1, 2), (1, 3)), (1, 6))
        self.assertEqual(less((1, 3), (1, 2)), (-1, 6))
        self.assertEqual(times((2, 3), (-9, 4)), (-3, 2))
        self.assertEqual(times((0, 1), (-9, 4)), (0, 1))
        self.assertEqual(by((2, 3), (-4, 9)), (-3, 2))
        self.assertEqual(by((-2, 3), (-2, 3)), (1, 1))
        self.assertEqual(by((0, 1), (-4, 9)), (0, 1))

    def test_against_pythons_fractions(self):
        for one in SMALL + GREAT:
            for other in SMALL + GREAT:
                a, b = Fraction(*one), Fraction(*other)
                self.assertEqual(plus(one, other), pair(a + b))
                self.assertEqual(less(one, other), pair(a - b))
                self.assertEqual(times(one, other), pair(a * b))
                if other != (0, 1):
                    self.assertEqual(by(one, other), pair(a / b))

    def test_by_nought(self):
        for one in SMALL + GREAT:
            with self.assertRaises(BadFraction):
                by(one, (0, 1))

    def test_by_names(self):
        self.assertEqual(plus(other=(1, 3), one=(1, 2)), (5, 6))
        self.assertEqual(less(other=(1, 3), one=(1, 2)), (1, 6))
        self.assertEqual(times(other=(1, 3), one=(1, 2)), (1, 6))
        self.assertEqual(by(other=(1, 3), one=(1, 2)), (3, 2))
        self.assertEqual(power(number=2, one=(1, 2)), (1, 4))


class Powers(unittest.TestCase):
    def test_by_hand(self):
        for one, number, made in [((2, 3), 0, (1, 1)), ((2, 3), 1, (2, 3)), ((2, 3), 3, (8, 27)), ((2, 3), -2, (9, 4)),
                                  ((-2, 3), 3, (-8, 27)), ((-2, 3), -3, (-27, 8)), ((-2, 3), -2, (9, 4)),
                                  ((0, 1), 0, (1, 1)), ((0, 1), 4, (0, 1)), ((-1, 1), -1, (-1, 1))]:
            self.assertEqual(power(one, number), made)

    def test_against_pythons_fractions(self):
        for one in SMALL + GREAT:
            for number in range(-7, 12):
                if one != (0, 1) or number >= 0:
                    self.assertEqual(power(one, number), pair(Fraction(*one) ** number))

    def test_nought_below_0(self):
        for number in (-1, -2, -10 ** 999):
            with self.assertRaises(BadFraction):
                power((0, 1), number)

    def test_to_numbers_of_a_thousand_figures(self):
        great = 10 ** 999
        for number in (great, great + 1, -great, -great - 1):
            self.assertEqual(power((1, 1), number), (1, 1))
            self.assertEqual(power((-1, 1), number), (1 if number % 2 == 0 else -1, 1))
        self.assertEqual(power((0, 1), great), (0, 1))


if __name__ == "__main__":
    unittest.main()
