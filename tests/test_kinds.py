"""hollowrise.kinds: whole numbers, tuples, RULES."""

import unittest

from hollowrise.errors import BadRule
from hollowrise.kinds import is_good, is_rule, is_tuple_of, is_whole, need_rule
from tests.samples import ODD_THINGS


class Kinds(unittest.TestCase):
    def test_whole_numbers(self):
        for number in (0, 1, -1, 10 ** 999, -10 ** 999):
            self.assertIs(is_whole(number), True)
        for thing in (True, False, None, 1.0, "1", b"1", (1,), [1], 1j):
            self.assertIs(is_whole(thing), False)

    def test_what_only_claims_to_be_one(self):
        class Liar:
            @property
            def __class__(self):
                return int

        self.assertIsInstance(Liar(), int)
        self.assertIs(is_whole(Liar()), False)
        self.assertIs(is_rule((Liar(), Liar())), False)

    def test_tuples(self):
        self.assertIs(is_tuple_of((), 0), True)
        self.assertIs(is_tuple_of((1, None), 2), True)
        for thing in ((1,), (1, 2, 3), [1, 2], "ab", {1: 1, 2: 2}, None, 2):
            self.assertIs(is_tuple_of(thing, 2), False)


class Rules(unittest.TestCase):
    def test_all_pairs_from_10_below_0_to_10(self):
        for a in range(-12, 13):
            for b in range(-12, 13):
                good = 0 < abs(a) < 10 and 0 < abs(b) < 10
                self.assertIs(is_rule((a, b)), good, (a, b))
                if good:
                    self.assertIsNone(need_rule((a, b)))
                else:
                    self.assertRaises(BadRule, need_rule, (a, b))

    def test_of_anything(self):
        wrong = [thing for thing in ODD_THINGS if thing != (1, 2)]
        wrong += [[1, 1], (1, 1, 1), (1,), (True, 1), (1, True), (False, 1), ("1", "1"), (1, 1.0), ((1, 1), 1)]
        for thing in wrong:
            self.assertIs(is_rule(thing), False, thing)
            self.assertRaises(BadRule, need_rule, thing)

    def test_good_ones(self):
        for a in (-9, -1, 1, 9):
            for b in (-9, -1, 1, 9):
                self.assertIs(is_good((a, b)), a > 0 and b > 0)


if __name__ == "__main__":
    unittest.main()
