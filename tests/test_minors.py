"""SQUARES of FLAT FIELDS and MINORS."""

import itertools
import random
import unittest
from fractions import Fraction

from hollowrise.deeds import raised
from hollowrise.errors import BadRows, Nought
from hollowrise.fields import is_field, mirrored, upside_down, with_worth
from hollowrise.flats import flat, is_flat
from hollowrise.minors import MOST_FRAME, field_by, frame, inside, is_plain, minor, minor_at, square, square_worths
from hollowrise.pairings import worth_by_pairings
from hollowrise.reach import worth_at
from tests.plain import ONE, outcome, places_of
from tests.plain_webs import closed_by_hand, open_by_hand, pair, top_at
from tests.samples import ODD_THINGS, SIZES, flat_field, steep_field
from tests.test_fields import NO_FIELDS
from tests.test_flats import no_numbers
from tests.test_targets import no_targets

FIELD = flat_field(7, 7)


def minor_by_hand(rows):
    """By all orders of the columns, as the document tells it."""
    total = Fraction(0)
    for order in itertools.permutations(range(len(rows))):
        swapped = sum(1 for one, other in itertools.combinations(order, 2) if one > other)
        value = Fraction((-1) ** swapped)
        for row, column in zip(rows, order):
            value *= Fraction(*row[column])
        total += value
    return pair(total)


def chance_rows(size, seed, nought=True, most=9):
    chance = random.Random(f"rows {size} {seed}")

    def one():
        value = Fraction(chance.choice([-1, 1]) * chance.randint(1, most), chance.randint(1, 4))
        return pair(Fraction(0) if nought and chance.random() < .2 else value)
    return tuple(tuple(one() for _ in range(size)) for _ in range(size))


def no_rows(most):
    """Things that are no rows of FRACTIONS, up to so many."""
    one = ((1, 1),)
    wrong = [thing for thing in ODD_THINGS if thing != ()]
    return wrong + [
        [one], ([(1, 1)],), ([1, 1],), ((1, 1),), (one, one), (one * 2,), (one * 2, one), (one * 2, one * 2, one * 2),
        (((2, 4),),), (((1, 0),),), (((1, -1),),), (((0, 2),),), (((1, 1, 1),),), (((True, 1),),), (((1, True),),),
        (((1.0, 1),),), ((None,),), (("11",),), ((), ()), ((),), (one * 2, one + (None,)), (one * 2, None),
        (((1, 2), (2, 2)), one * 2), (one * (most + 1),) * (most + 1), tuple([one * 2, list(one * 2)])]


class Squares(unittest.TestCase):
    def test_by_hand(self):
        self.assertEqual(square(FIELD, (3, 3, 2)), (((2, 3), (3, 2)), ((3, 4), (4, 3))))
        self.assertEqual(inside(FIELD, (3, 3, 2)), (((3, 3),),))
        self.assertEqual(square(FIELD, (2, 3, 1)), (((2, 3),),))
        self.assertEqual(inside(FIELD, (2, 3, 1)), ())
        self.assertEqual(square_worths(FIELD, (2, 3, 1)), ((FIELD[1][3][2],),))

    def test_all_targets(self):
        for wide, high in [(1, 2), (3, 3), (5, 6), (7, 7), (11, 9), (11, 11)]:
            field = flat_field(wide, high)
            heights, worths = field
            for x, y in places_of(heights):
                for n in range(2 - (x + y) % 2, top_at(heights, x, y) + 1, 2):
                    target = (x, y, n)
                    told, within = square(field=field, target=target), inside(field=field, target=target)
                    self.assertEqual([len(row) for row in told], [n] * n)
                    self.assertEqual([len(row) for row in within], [n - 1] * (n - 1))
                    spots = closed_by_hand(heights, target) + open_by_hand(heights, target)
                    self.assertEqual(sorted(spot for row in told for spot in row),
                                     sorted((a, b) for a, b in spots if heights[b][a] == 1))
                    self.assertEqual(sorted(spot for row in within for spot in row),
                                     [(a, b) for a, b in closed_by_hand(heights, target) if heights[b][a] == 0])
                    for i, j in itertools.product(range(n), range(n)):
                        self.assertEqual(told[i][j], (x + i + j - n + 1, y + i - j))
                    for i, j in itertools.product(range(n - 1), range(n - 1)):
                        a, b = within[i][j]
                        self.assertEqual((told[i][j], told[i + 1][j + 1], told[i][j + 1], told[i + 1][j]),
                                         ((a - 1, b), (a + 1, b), (a, b - 1), (a, b + 1)))
                    self.assertEqual(square_worths(field=field, target=target),
                                     tuple(tuple(worths[b][a] for a, b in row) for row in told))
                    if n < 5:
                        self.assertEqual(minor_at(field=field, target=target),
                                         minor_by_hand(square_worths(field, target)))

    def test_refused_in_order(self):
        for call in (square, inside, square_worths, minor_at, is_plain):
            for place, thing in NO_FIELDS:
                self.assertEqual(outcome(call, thing, None), ("BadField", {"place": place}))
            for field in (raised(FIELD, (4, 4)), upside_down(FIELD), mirrored(flat_field(6, 5)), steep_field(3, 3, 5)):
                self.assertEqual(outcome(call, field, None), ("BadField", {"place": "flat"}))
            for thing in no_targets((3, 3, 4)) + [(3, 3, 0), (0, 0, 0), (2, 2, 0)]:
                if thing not in ((3, 3, 2), (3, 3, 4)):
                    self.assertEqual(outcome(call, FIELD, thing), ("BadTarget", {}))

    def test_is_plain(self):
        field = flat(7, 7)
        for target in [(3, 3, 2), (3, 2, 3), (3, 3, 4), (2, 3, 1), (6, 5, 1)]:
            within = [spot for row in inside(field, target) for spot in row]
            self.assertIs(is_plain(field=field, target=target), True)
            for spot in places_of(field[0]):
                for worth in ((2, 1), (-1, 1), (1, 2)):
                    self.assertIs(is_plain(with_worth(field, spot, worth), target), spot not in within)


class Minors(unittest.TestCase):
    def test_by_hand(self):
        self.assertEqual(minor(()), (1, 1))
        self.assertEqual(minor((((-3, 4),),)), (-3, 4))
        self.assertEqual(minor(rows=(((1, 1), (2, 1)), ((3, 1), (4, 1)))), (-2, 1))
        self.assertEqual(minor((((0, 1), (1, 2)), ((1, 3), (5, 1)))), (-1, 6))

    def test_by_all_orders_of_the_columns(self):
        for size in range(6):
            for seed in range(12 if size < 5 else 4):
                rows = chance_rows(size, seed)
                self.assertEqual(minor(rows), minor_by_hand(rows))
        for rows in (chance_rows(6, "six"), chance_rows(7, "seven"), chance_rows(7, "more", most=10 ** 60)):
            self.assertEqual(minor(rows), minor_by_hand(rows))

    def test_noughts_on_the_way(self):
        for size, seed in itertools.product(range(2, 5), range(60)):
            chance = random.Random(f"noughts {size} {seed}")
            rows = tuple(tuple((chance.choice([0, 0, 0, 1, -2]), 1) for _ in range(size)) for _ in range(size))
            self.assertEqual(minor(rows), minor_by_hand(rows))

    def test_two_rows_exchanged_and_alike(self):
        for size in range(2, 8):
            rows = chance_rows(size, "exchanged", nought=False)
            above, below = minor(rows)
            self.assertNotEqual(above, 0)
            for one, other in itertools.combinations(range(size), 2):
                lines = list(rows)
                lines[one], lines[other] = rows[other], rows[one]
                self.assertEqual(minor(tuple(lines)), (-above, below))
                lines[one] = lines[other]
                self.assertEqual(minor(tuple(lines)), (0, 1))
            self.assertEqual(minor(tuple(zip(*rows))), (above, below))

    def test_long_numbers(self):
        long_one = 10 ** 999 + 9
        rows = tuple(tuple((long_one, 1) if i == j else (1, long_one) for j in range(3)) for i in range(3))
        self.assertEqual(minor(rows), minor_by_hand(rows))

    def test_bad_rows_of_anything(self):
        for thing in no_rows(7):
            self.assertEqual(outcome(minor, thing), ("BadRows", {}), thing)
        for size in range(8):
            self.assertEqual(outcome(minor, chance_rows(size, 0))[0], "told")


class ByRows(unittest.TestCase):
    def test_frame(self):
        self.assertEqual(MOST_FRAME, 6)
        self.assertEqual([frame(size) for size in range(1, 7)],
                         [(2, 1, 1, 0), (3, 3, 1, 1), (6, 5, 3, 2), (7, 7, 3, 3), (10, 9, 5, 4), (11, 11, 5, 5)])
        self.assertEqual(frame(size=2), (3, 3, 1, 1))
        for thing in no_numbers(1, 6):
            self.assertEqual(outcome(frame, thing), ("BadRows", {}))

    def test_the_square_tells_the_rows_back(self):
        for size in range(1, 7):
            rows = chance_rows(size, "back", nought=False)
            wide, high, x, y = frame(size)
            field = field_by(rows=rows)
            self.assertIs(is_field(field) and is_flat(field), True)
            self.assertEqual((len(field[0][0]), len(field[0])), (wide, high))
            self.assertEqual(square_worths(field, (x, y, size)), rows)
            within = [spot for row in square(field, (x, y, size)) for spot in row]
            for a, b in places_of(field[0]):
                if (a, b) not in within:
                    self.assertEqual(field[1][b][a], ONE)
            self.assertIs(is_plain(field, (x, y, size)), True)

    def test_bad_rows_of_anything(self):
        for thing in no_rows(6) + [(), (((0, 1),),), (((1, 1), (1, 1)), ((1, 1), (0, 1)))]:
            self.assertEqual(outcome(field_by, thing), ("BadRows", {}), thing)

    def test_the_sum_by_1_and_less_1_is_the_minor(self):
        for size, seed in itertools.product(range(1, 5), range(5)):
            rows = chance_rows(size, seed, nought=False)
            wide, high, x, y = frame(size)
            field = field_by(rows)
            self.assertEqual(worth_by_pairings(field, (x, y, size), rule=(1, -1)), minor(rows))
            self.assertEqual(minor_at(field, (x, y, size)), minor(rows))
            for a, b in places_of(field[0]):
                for n in range(2 - (a + b) % 2, min(top_at(field[0], a, b), 4) + 1, 2):
                    if is_plain(field, (a, b, n)):
                        self.assertEqual(worth_by_pairings(field, (a, b, n), rule=(1, -1)), minor_at(field, (a, b, n)))

    def test_where_one_is_0_the_deed_is_refused_and_the_sum_told(self):
        rows = (((1, 1), (2, 1), (5, 1)), ((2, 1), (4, 1), (1, 1)), ((1, 1), (3, 1), (7, 1)))
        field = field_by(rows)
        self.assertRaises(Nought, worth_at, field, 3, 2, 3, rule=(1, -1))
        self.assertEqual(worth_by_pairings(field, (3, 2, 3), rule=(1, -1)), minor_by_hand(rows))
        self.assertNotEqual(minor(rows), (0, 1))

    def test_boards_are_good(self):
        self.assertTrue(all(frame(size)[:2] in SIZES for size in range(1, 7)))
        self.assertRaises(BadRows, frame, 0)


if __name__ == "__main__":
    unittest.main()
