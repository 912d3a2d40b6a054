"""TABLES of 0, 1 and -1, and the PAIRINGS that two of them are."""

import functools
import itertools
import unittest
from fractions import Fraction

from hollowrise.deeds import hollows, raised
from hollowrise.errors import NotMet
from hollowrise.fields import mirrored, upside_down
from hollowrise.heights import all_heights, is_heights
from hollowrise.minors import field_by, frame, inside, minor, square
from hollowrise.pairings import pairings, powers_of, worth_by_pairings
from hollowrise.tables import (
    MOST_TABLE, all_tables, crossings, great_of, great_ones, heights_of, how_many_tables, is_table, meet, minuses,
    need_table, pairing_of, small_of, small_ones, sum_by_tables, sums, table_of)
from tests.plain import RULES, heights_done, outcome, places_of, squares_rim
from tests.plain_webs import pair, top_at
from tests.samples import ODD_THINGS, flat_field, random_heights, rows_by, steep_field, with_thing
from tests.test_deeds import NO_RULES
from tests.test_fields import NO_FIELDS
from tests.test_flats import no_numbers
from tests.test_minors import chance_rows, no_rows
from tests.test_targets import no_targets

FIELD = flat_field(7, 7)
THREE = ((0, 1, 0), (1, -1, 1), (0, 1, 0))
SEVEN = ((0, 0, 0, 1, 0, 0, 0), (0, 0, 1, -1, 1, 0, 0), (0, 1, -1, 1, -1, 1, 0), (1, -1, 1, -1, 1, -1, 1),
         (0, 1, -1, 1, -1, 1, 0), (0, 0, 1, -1, 1, 0, 0), (0, 0, 0, 1, 0, 0, 0))
SIX = ((0, 0, 1, 0, 0, 0), (0, 1, -1, 1, 0, 0), (1, -1, 1, -1, 1, 0), (0, 1, -1, 1, -1, 1), (0, 0, 1, -1, 1, 0),
       (0, 0, 0, 1, 0, 0))


def unit(size):
    return tuple(tuple(int(i == j) for j in range(size)) for i in range(size))


def is_line(numbers):
    firsts = [sum(numbers[:many]) for many in range(1, len(numbers) + 1)]
    return set(firsts) <= {0, 1} and firsts[-1] == 1


def wrong_line(rows):
    """The first row, then column, that isn't as TABLES have it, None without."""
    for number, row in enumerate(rows):
        if not is_line(row):
            return ("row", number)
    for number, column in enumerate(zip(*rows)):
        if not is_line(column):
            return ("column", number)
    return None


@functools.lru_cache(maxsize=None)
def tables_by_hand(size):
    """All TABLES, rising, out of all rows; () of 0 rows."""
    if size == 0:
        return ((),)
    lines = [line for line in itertools.product((-1, 0, 1), repeat=size) if is_line(line)]

    def going_on(rows):
        if len(rows) == size:
            return [rows] if wrong_line(rows) is None else []
        return [table for line in lines
                if all(0 <= sum(column) <= 1 for column in zip(*rows, line)) for table in going_on(rows + (line,))]
    return tuple(sorted(going_on(())))


def some_tables():
    return [table for size in range(1, 5) for table in tables_by_hand(size)] + list(tables_by_hand(5))[::40] + [
        SIX, SEVEN, unit(6), unit(7), unit(7)[::-1]]


def sums_by_hand(table):
    size = len(table)
    return tuple(tuple(sum(table[a][b] for a in range(i) for b in range(j)) for j in range(size + 1))
                 for i in range(size + 1))


def crossings_by_hand(table):
    size = len(table)
    return sum(table[i][j] * table[k][m] for i in range(size) for k in range(i + 1, size)
               for j in range(size) for m in range(j))


def meet_by_hand(great, small):
    one, other = sums_by_hand(great), sums_by_hand(small)
    return all(max(one[i][j], one[i + 1][j + 1] - 1) <= other[i][j] <= min(one[i + 1][j], one[i][j + 1])
               for i in range(len(great)) for j in range(len(great)))


def no_tables():
    """(place, thing) of what is no TABLE, wherever it is handed in."""
    wrong = [(None, thing) for thing in ODD_THINGS]
    wrong += [(None, thing) for thing in (
        [(1,)], ([1],), ((1,), (1,)), ((1, 0),), ((1, 0), (0,)), ((1, 0), (0, 1, 0)), ((True,),), ((1.0,),), ((2,),),
        ((-2,),), (("1",),), ((None,),), ((1, 0), (0, True)), ((1, False), (0, 1)), (1, 0), ((1, 0), None), unit(8),
        ((10 ** 999,),), (((1,),),), ((1, 0), [0, 1]), ((), ()))]
    return wrong + [(("row", 0), ((0,),)), (("row", 0), ((-1,),)), (("row", 0), ((1, 1), (0, 0))),
                    (("row", 1), ((0, 1), (0, 0))), (("row", 1), ((1, 0), (-1, 1))), (("column", 0), ((0, 1), (0, 1))),
                    (("column", 0), ((1, 0), (1, 0))), (("row", 0), ((1, -1), (0, 1))),
                    (("column", 1), ((1, 0, 0), (0, 0, 1), (0, 0, 1))),
                    (("column", 1), ((0, 0, 1), (1, -1, 1), (0, 1, 0)))]


class Which(unittest.TestCase):
    def test_all_rows_of_numbers(self):
        for size in (1, 2, 3):
            found = []
            for numbers in itertools.product((-1, 0, 1), repeat=size * size):
                rows = tuple(numbers[i * size:(i + 1) * size] for i in range(size))
                place = wrong_line(rows)
                self.assertIs(is_table(rows), place is None)
                self.assertEqual(outcome(need_table, rows),
                                 ("told", None) if place is None else ("BadTable", {"place": place}))
                found += [rows] if place is None else []
            self.assertEqual(tuple(found), tables_by_hand(size))

    def test_one_number_another(self):
        for table in some_tables():
            self.assertIs(is_table(thing=table), True)
            self.assertIsNone(need_table(thing=table))
            for x, y in places_of(table):
                for number in (-1, 0, 1, 2, True, False):
                    rows = with_thing(table, x, y, number)
                    place = None if number in (2,) or type(number) is bool else wrong_line(rows)
                    if rows[y][x] != table[y][x] or type(number) is bool:
                        self.assertEqual(outcome(need_table, rows), ("BadTable", {"place": place}))

    def test_bad_table_of_anything_wherever_it_is_handed_in(self):
        for place, thing in no_tables():
            self.assertIs(is_table(thing), False)
            for call in (need_table, sums, minuses, crossings, heights_of, small_ones, great_ones,
                         lambda table: meet(table, None), lambda table: meet(unit(3), table),
                         lambda table: meet(unit(1), table), lambda table: pairing_of(FIELD, (3, 3, 2), table, None),
                         lambda table: pairing_of(FIELD, (3, 3, 2), unit(2), table)):
                if thing != () or call in (need_table, sums, minuses, crossings, heights_of, small_ones):
                    self.assertEqual(outcome(call, thing), ("BadTable", {"place": place}), thing)
        self.assertEqual(MOST_TABLE, 7)


class Told(unittest.TestCase):
    def test_by_hand(self):
        self.assertEqual(sums(THREE), ((0, 0, 0, 0), (0, 0, 1, 1), (0, 1, 1, 2), (0, 1, 2, 3)))
        self.assertEqual((minuses(THREE), crossings(THREE)), (1, 2))
        self.assertEqual((minuses(SEVEN), minuses(SIX)), (9, 6))
        self.assertEqual([crossings(unit(7)), crossings(unit(7)[::-1])], [0, 21])

    def test_sums_minuses_crossings(self):
        for table in some_tables():
            self.assertEqual(sums(table=table), sums_by_hand(table))
            self.assertEqual(minuses(table=table), sum(number == -1 for row in table for number in row))
            self.assertEqual(crossings(table=table), crossings_by_hand(table))

    def test_heights_there_and_back(self):
        for table in some_tables():
            heights = heights_of(table=table)
            told = sums_by_hand(table)
            size = len(table)
            self.assertEqual(heights, rows_by(size + 1, size + 1, lambda x, y: x + y - 2 * told[y][x]))
            self.assertIs(is_heights(heights), True)
            self.assertEqual(table_of(heights=heights), table)

    def test_all_heights_of_the_rim(self):
        for size in range(1, 5):
            every = all_heights(squares_rim(size))
            self.assertEqual(sorted(table_of(heights) for heights in every), list(tables_by_hand(size)))
            self.assertEqual(sorted(heights_of(table) for table in tables_by_hand(size)), every)

    def test_a_hollow_raised(self):
        for table in some_tables():
            heights = heights_of(table)
            for x, y in hollows((heights, rows_by(len(heights), len(heights), lambda a, b: (1, 1)))):
                rows = [list(row) for row in table]
                for i, j, step in ((y - 1, x - 1, -1), (y, x, -1), (y - 1, x, 1), (y, x - 1, 1)):
                    rows[i][j] += step
                self.assertEqual(table_of(heights_done(heights, ("up", x, y))), tuple(map(tuple, rows)))

    def test_bad_heights(self):
        wrong = list(ODD_THINGS) + [((0,),), ((0, 1),), ((0,), (1,)), ((0, 1, 0), (1, 0, 1)), squares_rim(8),
                                    squares_rim(9), ((0, 1), (1, 2)), ((0, -1), (1, 0)), ((0, 1), (-1, 0)),
                                    [[0, 1], [1, 0]], ((0, 1), (1, True))]
        heights = squares_rim(3)
        wrong += [tuple(tuple(height + 2 for height in row) for row in heights),
                  tuple(tuple(-height for height in row) for row in heights), heights[::-1],
                  tuple(row[::-1] for row in heights), heights[:3], tuple(row[:3] for row in heights)]
        wrong += [random_heights(size, size, f"rim {size}") for size in range(2, 9)]
        for x, y in places_of(heights):
            for step in (-2, -1, 1, 2):
                if not 0 < x < 3 or not 0 < y < 3 or step % 2:
                    wrong.append(with_thing(heights, x, y, heights[y][x] + step))
        for thing in wrong:
            self.assertEqual(outcome(table_of, thing), ("BadHeights", {}), thing)
        for size in range(1, 8):
            self.assertEqual(len(table_of(squares_rim(size))), size)
        # Another RIM, and HEIGHTS all the same: a corner of another height.
        for thing in (((0, 1), (1, 2)), ((0, 1, 2), (1, 0, 1), (2, 1, 2)), ((0, 1, 0), (1, 0, 1), (2, 1, 0))):
            self.assertIs(is_heights(thing), True)
            self.assertEqual(outcome(table_of, thing), ("BadHeights", {}))


class All(unittest.TestCase):
    def test_rising_each_once(self):
        for size in range(1, 6):
            self.assertEqual(all_tables(size=size), list(tables_by_hand(size)))
        self.assertEqual([how_many_tables(size=size) for size in range(1, 8)], [1, 2, 7, 42, 429, 7436, 218348])

    def test_refused(self):
        for size in (6, 7):
            self.assertEqual(outcome(all_tables, size), ("TooGreat", {"most": 4096}))
        for thing in no_numbers(1, 7):
            self.assertEqual(outcome(all_tables, thing), ("BadTable", {"place": None}))
            self.assertEqual(outcome(how_many_tables, thing), ("BadTable", {"place": None}))

    def test_a_told_list_is_the_askers_own(self):
        all_tables(3).clear()
        small_ones(THREE).clear()
        great_ones(()).clear()
        self.assertEqual((len(all_tables(3)), len(small_ones(THREE)), great_ones(())), (7, 2, [((1,),)]))


class Meeting(unittest.TestCase):
    def test_all_of_small_sizes(self):
        for size in range(1, 5):
            met = 0
            for great in tables_by_hand(size):
                for small in tables_by_hand(size - 1):
                    told = meet(great=great, small=small)
                    self.assertIs(told, meet_by_hand(great, small))
                    met += told
            self.assertEqual(met, 2 ** (size * (size - 1) // 2))

    def test_small_ones(self):
        self.assertEqual(small_ones(((1,),)), [()])
        self.assertEqual(small_ones(THREE), [((0, 1), (1, 0)), ((1, 0), (0, 1))])
        for great in some_tables():
            told = small_ones(great=great)
            self.assertEqual(told, sorted(told))
            self.assertEqual(len(set(told)), 2 ** minuses(great))
            if 1 < len(great) < 6:
                self.assertEqual(told, [small for small in tables_by_hand(len(great) - 1) if meet_by_hand(great,
                                                                                                          small)])
            else:
                self.assertTrue(all(small == () or is_table(small) and meet_by_hand(great, small) for small in told))

    def test_great_ones(self):
        self.assertEqual(great_ones(()), [((1,),)])
        self.assertEqual(great_ones(((1,),)), [((0, 1), (1, 0)), ((1, 0), (0, 1))])
        for small in some_tables():
            if len(small) == 7:
                self.assertEqual(outcome(great_ones, small), ("BadTable", {"place": None}))
                continue
            told = great_ones(small=small)
            self.assertEqual(told, sorted(told))
            self.assertEqual(len(set(told)), 2 ** sum(number == 1 for row in small for number in row))
            if len(small) < 5:
                self.assertEqual(told, [great for great in tables_by_hand(len(small) + 1) if meet_by_hand(great,
                                                                                                          small)])
            else:
                self.assertTrue(all(is_table(great) and meet_by_hand(great, small) for great in told[::97]))

    def test_bad_table_in_order(self):
        wrong = ((1, 0), (-1, 1))
        for great, small, place in [
                (wrong, None, ("row", 1)), (None, wrong, None), (unit(2), wrong, ("row", 1)), (unit(3), unit(3), None),
                (unit(3), unit(1), None), (unit(3), (), None), (unit(2), (), None), (unit(1), unit(1), None),
                (unit(1), [], None), ((), (), None), (unit(7), unit(5), None), (unit(1), wrong, ("row", 1)),
                (unit(3), ((0,),), ("row", 0)), (unit(1), ((),), None)]:
            self.assertEqual(outcome(meet, great, small), ("BadTable", {"place": place}), (great, small))
        self.assertIs(meet(unit(7), unit(6)), True)
        self.assertIs(meet(unit(1), ()), True)


class AsPairings(unittest.TestCase):
    def test_there_and_back_all_pairings(self):
        for wide, high in [(1, 2), (3, 3), (5, 4), (7, 7), (8, 7)]:
            field = flat_field(wide, high)
            for x, y in places_of(field[0]):
                for n in range(2 - (x + y) % 2, min(top_at(field[0], x, y), 4) + 1, 2):
                    self.one_target(field, (x, y, n))

    def one_target(self, field, target):
        n = target[2]
        spots, within = square(field, target), inside(field, target)
        found = []
        for pairing in pairings(field, target):
            great = great_of(field=field, target=target, pairing=pairing)
            small = small_of(field=field, target=target, pairing=pairing)
            many = {spot: sum(spot in tie for tie in pairing) for spot in places_of(field[0])}
            self.assertEqual(great, tuple(tuple(1 - many[spot] for spot in row) for row in spots))
            self.assertEqual(small, tuple(tuple(many[spot] - 1 for spot in row) for row in within))
            self.assertIsNone(wrong_line(great))
            self.assertIsNone(wrong_line(small))
            self.assertEqual(pairing_of(field=field, target=target, great=great, small=small), pairing)
            found.append((great, small))
            powers = dict(powers_of(field, target, pairing))
            for rows, numbers, sign in ((spots, great, 1), (within, small, -1)):
                for row, line in zip(rows, numbers):
                    self.assertEqual([powers.pop(spot, 0) for spot in row], [sign * number for number in line])
            self.assertEqual(powers, {})
        self.assertEqual(sorted(found), [(great, small) for great in tables_by_hand(n)
                                         for small in tables_by_hand(n - 1) if meet_by_hand(great, small)])

    def test_5_and_6(self):
        for size, great in ((5, tables_by_hand(5)[200]), (6, SIX), (6, unit(6)[::-1])):
            wide, high, x, y = frame(size)
            field = flat_field(wide, high)
            for small in small_ones(great)[::9]:
                pairing = pairing_of(field, (x, y, size), great, small)
                self.assertEqual(great_of(field, (x, y, size), pairing), great)
                self.assertEqual(small_of(field, (x, y, size), pairing), small)

    def test_not_met_behind_all_else(self):
        target = (3, 2, 3)
        for great in tables_by_hand(3):
            for small in tables_by_hand(2):
                if not meet_by_hand(great, small):
                    self.assertRaises(NotMet, pairing_of, FIELD, target, great, small)

    def test_refused_in_order(self):
        three = [great_of, small_of, lambda field, target, last: pairing_of(field, target, last, None)]
        for call in three:
            for place, thing in NO_FIELDS:
                self.assertEqual(outcome(call, thing, None, None), ("BadField", {"place": place}))
            for field in (raised(FIELD, (4, 4)), upside_down(FIELD), mirrored(flat_field(6, 5)), steep_field(3, 3, 5)):
                self.assertEqual(outcome(call, field, None, None), ("BadField", {"place": "flat"}))
            for thing in no_targets((3, 3, 4)) + [(3, 3, 0), (0, 0, 0)]:
                if thing not in ((3, 3, 2), (3, 3, 4)):
                    self.assertEqual(outcome(call, FIELD, thing, None), ("BadTarget", {}))
        level, upright = pairings(FIELD, (3, 3, 2))
        for number, thing in [(None, list(level)), (None, None), (1, level[:1]), (0, ()), (1, level[:1] + upright[1:]),
                              (0, (None,)), (1, level[::-1]), (2, level + level[:1]), (0, (level,))]:
            for call in three[:2]:
                self.assertEqual(outcome(call, FIELD, (3, 3, 2), thing), ("BadPairing", {"number": number}))
        wrong = ((1, 0), (-1, 1))
        for target, great, small, place in [
                ((3, 2, 3), wrong, None, ("row", 1)), ((3, 2, 3), unit(3), wrong, ("row", 1)),
                ((3, 2, 3), unit(2), wrong, ("row", 1)), ((3, 2, 3), unit(2), unit(1), None),
                ((3, 2, 3), unit(3), unit(3), None), ((3, 2, 3), unit(4), unit(3), None),
                ((3, 2, 3), unit(3), (), None),
                ((3, 2, 1), unit(1), unit(1), None), ((3, 2, 1), unit(2), (), None), ((3, 2, 1), unit(1), None, None),
                ((3, 3, 2), unit(2), (), None), ((3, 3, 2), unit(1), (), None)]:
            self.assertEqual(outcome(pairing_of, FIELD, target, great, small), ("BadTable", {"place": place}))
        self.assertEqual(pairing_of(FIELD, (3, 2, 1), unit(1), ()), ())


class Sums(unittest.TestCase):
    def sum_by_hand(self, rows, rule):
        """By all TABLES, one by one, as T13 tells it."""
        a, b = rule
        size = len(rows)
        total = Fraction(0)
        for table in tables_by_hand(size):
            crossed, minus = crossings_by_hand(table), sum(number == -1 for row in table for number in row)
            value = Fraction(a ** (size * (size - 1) // 2 - crossed) * b ** (crossed - minus) * (a + b) ** minus)
            for row, line in zip(rows, table):
                for worth, number in zip(row, line):
                    value *= Fraction(*worth) ** number
            total += value
        return pair(total)

    def test_by_all_tables_and_all_pairings(self):
        for size, rule, seed in itertools.product(range(1, 5), RULES, range(2)):
            rows = chance_rows(size, seed, nought=False)
            wide, high, x, y = frame(size)
            told = sum_by_tables(rows, rule=rule)
            self.assertEqual(told, self.sum_by_hand(rows, rule))
            self.assertEqual(told, worth_by_pairings(field_by(rows), (x, y, size), rule=rule))

    def test_5_rows(self):
        for rule in ((1, 1), (1, -1), (-2, 3)):
            rows = chance_rows(5, "five", nought=False)
            self.assertEqual(sum_by_tables(rows=rows, rule=rule), self.sum_by_hand(rows, rule))
        ones = (((1, 1),) * 5,) * 5
        self.assertEqual(sum_by_tables(ones), (1024, 1))

    def test_by_1_and_less_1_the_minor(self):
        for size, seed in itertools.product(range(1, 6), range(4)):
            rows = chance_rows(size, seed, nought=False)
            self.assertEqual(sum_by_tables(rows, rule=(1, -1)), minor(rows))

    def test_a_sum_of_0(self):
        rows = (((1, 1), (1, 1)), ((1, 1), (1, 1)))
        self.assertEqual(sum_by_tables(rows, rule=(1, -1)), (0, 1))

    def test_long_numbers(self):
        rows = tuple(tuple((10 ** 999 + 10 ** (i + 1) + 1 + j, 10 ** 998 + 3) for j in range(3)) for i in range(3))
        rows = tuple(tuple(pair(Fraction(*worth)) for worth in row) for row in rows)
        self.assertEqual(sum_by_tables(rows, rule=(2, -3)), self.sum_by_hand(rows, (2, -3)))

    def test_refused_in_order(self):
        wrong = no_rows(5) + [(), (((0, 1),),), (((1, 1), (1, 1)), ((1, 1), (0, 1))), chance_rows(6, 0, nought=False)]
        for thing in wrong:
            self.assertEqual(outcome(sum_by_tables, thing), ("BadRows", {}), thing)
            self.assertEqual(outcome(sum_by_tables, thing, rule=None), ("BadRows", {}), thing)
        for rule in NO_RULES:
            self.assertEqual(outcome(sum_by_tables, (((1, 1),),), rule=rule), ("BadRule", {}))


if __name__ == "__main__":
    unittest.main()
