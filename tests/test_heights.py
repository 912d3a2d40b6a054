"""hollowrise.heights: HEIGHTS by themselves."""

import itertools
import random
import unittest
from math import comb

from hollowrise.errors import BadHeights, TooGreat
from hollowrise.heights import (
    all_heights, apart, greater, highest, how_many_heights, is_heights, lesser, lowest)
from tests.plain import (
    FLAT_5, all_by_hand, bounds_at, heights_behind, is_inner, places_of, squares_rim, strips, wander, ways_apart)
from tests.samples import (
    ODD_THINGS, SIZES, flat_field, place_of, random_heights, rows_by, steep_field, with_thing, worths_for)

# Of one RIM: all that there are, and one more than 4096.
FEW = ((0, 1, 0), (1, 0, 1), (0, 1, 0))
ONE_MORE = ((0, -1, 0, -1, 0, -1, -2), (1, 0, -1, -2, -1, -2, -3), (2, 1, 0, -1, -2, -3, -2),
            (1, 0, -1, -2, -3, -2, -1), (0, -1, -2, -3, -4, -3, -2), (-1, -2, -3, -2, -3, -2, -1),
            (-2, -1, -2, -1, -2, -1, 0))

# How many tables of a size there are, as is well known.
TABLES = [1, 2, 7, 42, 429, 7436, 218348, 10850216, 911835460, 129534272700]

PAIRS = [lesser, greater, apart]
SINGLES = [lowest, highest, all_heights, how_many_heights]


def no_heights():
    """Things that are no HEIGHTS."""
    flat = flat_field(3, 4)[0]
    wrong = [thing for thing in ODD_THINGS] + [
        ((1,),), ((36,),), ((-36,),), ((0, 3),), ((0, 0),), ((0, 1), (2, 1)), ((0, 1), (1,)), ((0, 1), (1, 0, 1)),
        [[0]], [(0,)], ([0],), ((0,), [1]), ((True,),), ((False,),), ((0, True),), ((0.0,),), ((0, 1.0),), (("0",),),
        ((0, 1, 2), "abc"), ((), ()), (((0,),),), ((None,),), ((0,) * 12,), ((0,),) * 12, ((10 ** 999,),),
        tuple((number % 2,) for number in range(12)), (tuple(number % 2 for number in range(12)),),
        ((34, 35, 36),), ((-34,), (-35,), (-36,)), flat_field(1, 1), (flat, flat), list(flat), flat[:-1] + (flat[0],)]
    for x, y in places_of(flat):
        for number in (2, -2, 3, 10, None, 0.0, 1.0, True, (0,)):
            wrong.append(with_thing(flat, x, y, number if type(number) is not int else flat[y][x] + number))
    return [thing for thing in wrong if place_of((thing, worths_like(thing))) in ("heights", "steps")]


def worths_like(thing):
    """WORTHS for rows, None where there are none for such a thing."""
    try:
        return worths_for(len(thing[0]), len(thing))
    except (TypeError, IndexError, KeyError):
        return None


class IsHeights(unittest.TestCase):
    def test_of_anything(self):
        self.assertGreater(len(no_heights()), 120)
        for thing in no_heights():
            self.assertIs(is_heights(thing), False, thing)

    def test_all_boards(self):
        for wide, high in SIZES:
            for seed in range(3):
                heights = random_heights(wide, high, seed)
                self.assertIs(is_heights(heights), True)
        self.assertIs(is_heights(thing=((35,), (36 - 2,))), False)
        self.assertIs(is_heights(thing=((34,), (35,))), True)

    def test_as_those_within_a_field(self):
        for wide, high in [(1, 1), (2, 3), (3, 3), (5, 4)]:
            heights = random_heights(wide, high, "within")
            for (x, y), thing in itertools.product(places_of(heights), [0, 1, 2, -1, 35, 36, True, None, (), 1.0]):
                rows = with_thing(heights, x, y, thing)
                self.assertIs(is_heights(rows), place_of((rows, worths_for(wide, high))) == "")

    def test_all_rows_of_a_few_numbers(self):
        for wide, high in [(1, 1), (2, 1), (1, 3), (2, 2)]:
            for numbers in itertools.product(range(-3, 4), repeat=wide * high):
                rows = rows_by(wide, high, lambda x, y: numbers[y * wide + x])
                self.assertIs(is_heights(rows), place_of((rows, worths_for(wide, high))) == "")

    def test_inner_ones_go_to_40(self):
        steep = steep_field(11, 11, 34)[0]
        self.assertEqual(steep[5][5], 40)
        self.assertIs(is_heights(steep), True)
        self.assertIs(is_heights(with_thing(steep, 5, 5, 38)), True)
        self.assertIs(is_heights(with_thing(steep, 5, 5, 42)), False)


class Refused(unittest.TestCase):
    def test_what_are_no_heights_at_either_place(self):
        for thing in no_heights():
            for function in PAIRS:
                for one, other in ((thing, FEW), (FEW, thing), (thing, thing)):
                    self.assertRaises(BadHeights, function, one, other)
            for function in SINGLES:
                self.assertRaises(BadHeights, function, thing)

    def test_unlike_boards(self):
        for size, other_size in [((1, 1), (1, 2)), ((1, 1), (2, 1)), ((1, 11), (11, 1)), ((3, 4), (4, 3)),
                                 ((3, 3), (3, 4)), ((11, 11), (11, 10))]:
            one, other = flat_field(*size)[0], flat_field(*other_size)[0]
            for function in PAIRS:
                self.assertRaises(BadHeights, function, one, other)
                self.assertRaises(BadHeights, function, other, one)

    def test_unlike_rims(self):
        for wide, high in SIZES:
            one = random_heights(wide, high, "rim", 33)
            other = rows_by(wide, high, lambda x, y: one[y][x] + 2)
            for function in PAIRS:
                self.assertRaises(BadHeights, function, one, other)
                self.assertRaises(BadHeights, function, other, one)

    def test_one_spot_of_the_rim_apart(self):
        flat = flat_field(5, 4)[0]
        found = 0
        for x, y in places_of(flat):
            if not is_inner(flat, x, y):
                for step in (2, -2):
                    other = with_thing(flat, x, y, flat[y][x] + step)
                    if is_heights(other):
                        found += 1
                        for function in PAIRS:
                            self.assertRaises(BadHeights, function, flat, other)
        self.assertEqual(found, 14)


class LesserAndGreater(unittest.TestCase):
    def test_by_hand(self):
        high_one = ((0, 1, 0, 1), (1, 2, 1, 0), (0, 1, 0, 1))
        low_one = ((0, 1, 0, 1), (1, 0, -1, 0), (0, 1, 0, 1))
        middle = ((0, 1, 0, 1), (1, 0, 1, 0), (0, 1, 0, 1))
        self.assertEqual(lesser(high_one, low_one), low_one)
        self.assertEqual(greater(high_one, low_one), high_one)
        self.assertEqual(lesser(one=middle, other=high_one), middle)
        self.assertEqual(greater(other=middle, one=low_one), middle)
        self.assertEqual([apart(high_one, low_one), apart(high_one, middle), apart(middle, low_one),
                          apart(one=low_one, other=high_one)], [2, 1, 1, 2])

    def test_neither_below_the_other(self):
        one = ((0, 1, 0, 1, 0), (1, 2, 1, 0, 1), (0, 1, 0, 1, 0))
        other = ((0, 1, 0, 1, 0), (1, 0, 1, 2, 1), (0, 1, 0, 1, 0))
        self.assertEqual(lesser(one, other), ((0, 1, 0, 1, 0), (1, 0, 1, 0, 1), (0, 1, 0, 1, 0)))
        self.assertEqual(greater(one, other), ((0, 1, 0, 1, 0), (1, 2, 1, 2, 1), (0, 1, 0, 1, 0)))
        self.assertEqual(apart(one, other), 2)

    def test_all_boards(self):
        for wide, high in SIZES:
            one = random_heights(wide, high, "both")
            other = heights_behind(one, wander(one, 3 * wide, "lesser"))
            less, more = lesser(one, other), greater(one, other)
            self.assertEqual(less, rows_by(wide, high, lambda x, y: min(one[y][x], other[y][x])))
            self.assertEqual(more, rows_by(wide, high, lambda x, y: max(one[y][x], other[y][x])))
            self.assertEqual((less, more), (lesser(other, one), greater(other, one)))
            self.assertTrue(is_heights(less) and is_heights(more))
            self.assertEqual((apart(less, more), apart(one, one)), (apart(one, other), 0))
            self.assertEqual(apart(one, other), apart(other, one))
            low, top = lowest(one), highest(one)
            for x, y in places_of(one):
                self.assertTrue(low[y][x] <= less[y][x] <= more[y][x] <= top[y][x])

    def test_apart_is_how_many_deeds_lead_there(self):
        for heights in (FEW, random_heights(4, 4, "apart"), flat_field(5, 4)[0]):
            for other, many in ways_apart(heights).items():
                self.assertEqual(apart(heights, other), many)


class LowestAndHighest(unittest.TestCase):
    def test_by_hand(self):
        self.assertEqual(lowest(FLAT_5), ((0, 1, 0, 1, 0), (1, 0, -1, 0, 1), (0, -1, -2, -1, 0), (1, 0, -1, 0, 1),
                                          (0, 1, 0, 1, 0)))
        self.assertEqual(highest(FLAT_5), ((0, 1, 0, 1, 0), (1, 2, 1, 2, 1), (0, 1, 2, 1, 0), (1, 2, 1, 2, 1),
                                           (0, 1, 0, 1, 0)))
        self.assertEqual(lowest(heights=FEW), FEW)
        self.assertEqual(highest(heights=FEW), ((0, 1, 0), (1, 2, 1), (0, 1, 0)))

    def test_all_boards(self):
        for wide, high in SIZES:
            heights = random_heights(wide, high, "bounds")
            low, top = lowest(heights), highest(heights)
            bounds = {(x, y): bounds_at(heights, x, y) for x, y in places_of(heights)}
            self.assertEqual(low, rows_by(wide, high, lambda x, y: bounds[x, y][0]))
            self.assertEqual(top, rows_by(wide, high, lambda x, y: bounds[x, y][1]))
            self.assertTrue(is_heights(low) and is_heights(top))
            for x, y in places_of(heights):
                self.assertLessEqual(top[y][x] - low[y][x], 2 * min(x, y, wide - 1 - x, high - 1 - y))

    def test_are_the_bounds_of_all(self):
        for wide, high in [(3, 3), (4, 3), (3, 4), (4, 4), (5, 3)]:
            for seed in range(4):
                heights = random_heights(wide, high, seed)
                every = all_by_hand(heights)
                for told, taken in ((lowest, min), (highest, max)):
                    self.assertEqual(told(heights), rows_by(wide, high, lambda x, y: taken(one[y][x] for one in every)))

    def test_without_inner_spots(self):
        for wide, high in SIZES:
            if min(wide, high) <= 2:
                heights = random_heights(wide, high, "edge")
                self.assertEqual((lowest(heights), highest(heights)), (heights, heights))

    def test_at_the_bounds_of_the_rim(self):
        for edge in (34, -35):
            steep = steep_field(11, 11, edge)[0]
            self.assertEqual(highest(steep), steep)
            self.assertIs(is_heights(lowest(steep)), True)
        self.assertEqual(highest(steep_field(11, 11, 34)[0])[5][5], 40)
        self.assertEqual(lowest(steep_field(11, 11, -35)[0])[5][5], -40)


class All(unittest.TestCase):
    def test_by_hand(self):
        raised = ((0, 1, 0), (1, 2, 1), (0, 1, 0))
        self.assertEqual(all_heights(FEW), [FEW, raised])
        self.assertEqual(all_heights(heights=raised), [FEW, raised])
        row = (0, 1, 0, 1)
        self.assertEqual(all_heights((row, (1, 2, 1, 0), row)), [
            (row, (1, 0, -1, 0), row), (row, (1, 0, 1, 0), row), (row, (1, 2, 1, 0), row)])

    def test_against_all_rows_of_numbers(self):
        for wide, high in [(1, 1), (1, 4), (2, 2), (3, 3), (3, 4), (4, 3), (4, 4), (6, 3), (3, 6)]:
            for seed in range(3):
                heights = random_heights(wide, high, seed)
                every = all_by_hand(heights)
                self.assertEqual(all_heights(heights), every)
                self.assertEqual(how_many_heights(heights), len(every))

    def test_against_all_that_deeds_lead_to(self):
        for wide, high in [(5, 5), (3, 11), (11, 3), (5, 4), (6, 4)]:
            heights = random_heights(wide, high, "led")
            if how_many_heights(heights) <= 4096:
                self.assertEqual(all_heights(heights), sorted(ways_apart(heights)))
        self.assertEqual(all_heights(FLAT_5), sorted(ways_apart(FLAT_5)))

    def test_without_inner_spots(self):
        for wide, high in SIZES:
            if min(wide, high) <= 2:
                heights = random_heights(wide, high, "none")
                self.assertEqual(all_heights(heights), [heights])
                self.assertEqual(how_many_heights(heights), 1)

    def test_a_new_list_each_time(self):
        told = all_heights(FLAT_5)
        kept = list(told)
        other = all_heights(FLAT_5)
        self.assertIsNot(told, other)
        told.clear()
        self.assertEqual((other, all_heights(FLAT_5)), (kept, kept))

    def test_all_of_one_rim_tell_the_same(self):
        every = all_heights(FLAT_5)
        for heights in random.Random(3).sample(every, 20):
            self.assertEqual(all_heights(heights), every)
            self.assertEqual(how_many_heights(heights), len(every))

    def test_just_4096_and_one_more(self):
        self.assertEqual(how_many_heights(strips(9, 4)), 4096)
        every = all_heights(strips(9, 4))
        self.assertEqual((len(every), every), (4096, sorted(ways_apart(strips(9, 4)))))
        self.assertEqual(how_many_heights(ONE_MORE), 4097)
        for heights in (ONE_MORE, lowest(ONE_MORE), highest(ONE_MORE), strips(9, 5), flat_field(11, 11)[0]):
            with self.assertRaises(TooGreat) as caught:
                all_heights(heights)
            self.assertEqual(caught.exception.most, 4096)


class HowMany(unittest.TestCase):
    def test_as_many_as_there_are_tables(self):
        for size, many in enumerate(TABLES, 1):
            self.assertEqual(how_many_heights(squares_rim(size)), many)

    def test_strips_apart_from_one_another(self):
        for wide in range(2, 12):
            for many in range(1, 6):
                heights = strips(wide, many)
                self.assertEqual(how_many_heights(heights), (wide - 1) ** many)
                turned = tuple(zip(*heights))
                self.assertEqual(how_many_heights(heights=turned), (wide - 1) ** many)

    def test_one_that_is_far_beyond(self):
        flat = flat_field(11, 11)[0]
        self.assertGreater(how_many_heights(flat), 10 ** 14)
        self.assertEqual(how_many_heights(flat), how_many_heights(lowest(flat)))
        self.assertEqual(how_many_heights(steep_field(11, 11, 34)[0]), how_many_heights(steep_field(11, 11, -35)[0]))

    def test_turned_and_mirrored_as_many(self):
        for wide, high in [(5, 7), (11, 4), (8, 8), (11, 11)]:
            heights = random_heights(wide, high, "turned", 34)
            about = rows_by(wide, high, lambda x, y: heights[y][wide - 1 - x] + (1 - wide % 2))
            self.assertEqual(how_many_heights(heights), how_many_heights(tuple(zip(*heights))))
            self.assertEqual(how_many_heights(heights), how_many_heights(about))

    def test_a_chain_of_free_spots(self):
        # One row within: a walk that stays at one of two sides of a level rim.
        for wide in range(3, 12):
            heights = rows_by(wide, 3, lambda x, y: (x + y) % 2)
            self.assertEqual(how_many_heights(heights), len(all_heights(heights)))
        slope = rows_by(11, 3, lambda x, y: x if y != 1 else (x + 1 if x < 5 else x - 1))
        self.assertEqual(how_many_heights(slope), comb(10, 1))


if __name__ == "__main__":
    unittest.main()
