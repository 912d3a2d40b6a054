"""hollowrise.letters: POWERS, SUMS, the SUM OF A TARGET, WEIGHTS."""

import copy
import itertools
import random
import unittest
from fractions import Fraction

from hollowrise import letters
from hollowrise.errors import (
    BadField, BadPowers, BadRule, BadSpot, BadSum, BadTarget, BadWeighing, TooGreat)
from hollowrise.letters import (
    by_powers, closed_worth, is_powers, is_sum, met, moment, most_met, need_powers, need_sum, put_in, so_often, sum_of,
    sum_plus, sum_times, weight)
from hollowrise.pairings import how_many, pairings, powers_of, worth_by_pairings
from hollowrise.reach import worth_at
from tests.plain import ONE, RULES, outcome, places_of
from tests.plain_webs import (
    closed_by_hand, counts_by_hand, field_on, low_heights, open_by_hand, pair, pairings_by_hand, powers_by_hand,
    small_worths, some_targets, sum_by_hand, target_heights, targets_of, web_by_hand)
from tests.samples import ODD_THINGS, SIXTY, claims, flat_field, near_places, rows_by, worths_for
from tests.test_deeds import NO_RULES
from tests.test_fields import NO_FIELDS, no_spots
from tests.test_targets import no_targets

FLAT = flat_field(5, 5)
LEVEL = (((1, 2), (2, 2)), ((2, 2), (3, 2)))
UPRIGHT = (((2, 1), (2, 2)), ((2, 2), (2, 3)))
X, Y, Z = (0, 0), (0, 1), (10, 10)
LONG = 10 ** 6000 + 7

GOOD_POWERS = [(), ((X, 1),), ((X, -99),), ((X, 99),), ((X, 1), (Y, -1), (Z, 5)), (((3, 7), 2), ((4, 0), -2))]
GOOD_SUMS = [(), (((), 1),), (((), -LONG),), ((((X, 1),), 3), (((Y, 1),), -3)),
             (((), 1), (((X, -1),), 1), (((X, -1), (Y, 1)), 2), (((X, 1),), LONG))]
SOME = some_targets()


def no_pairs():
    """Things that are no pair of POWERS, wherever they stand."""
    return [thing for thing in ODD_THINGS] + [
        (X,), (X, 1, 1), [X, 1], (X, 0), (X, 100), (X, -100), (X, True), (X, 1.0), (X, None), (X, "1"), (list(X), 1),
        ((0, 11), 1), ((11, 0), 1), ((-1, 0), 1), ((1, -1), 1), ((-1, 10), 1), ((-1, 11), 1), ((11, -1), 1), ((0, -1), 1),
        ((5, 11), 1), ((4, 12), 1), ((True, 0), 1), ((0, False), 1), ((0.0, 0), 1), ((0,), 1), (0, 1), (1, X),
        (X, LONG), ((X, 1),)]


def no_rows():
    """Things that are no row of a SUM, wherever they stand."""
    return [thing for thing in ODD_THINGS] + [
        ((), 0), ((), True), ((), 1.0), ((), None), ((),), ((), 1, 1), [(), 1], ([], 1), (((X, 0),), 1), (((X, 100),), 1),
        (((X, 1), (X, 2)), 1), (((Y, 1), (X, 1)), 1), ((X, 1), 1), (((X, 1),), "1"), ([(X, 1)], 1), (1, ()), (1, 1),
        (((X, 1), None), 1)]


def as_dict(thing):
    return dict(thing)


def times_by_hand(one, other):
    told = {}
    for (powers, number), (powers_other, number_other) in itertools.product(one, other):
        both = {}
        for spot, often in powers + powers_other:
            both[spot] = both.get(spot, 0) + often
        key = tuple(sorted((spot, often) for spot, often in both.items() if often))
        told[key] = told.get(key, 0) + number * number_other
    return tuple(sorted((key, number) for key, number in told.items() if number))


def chance_sum(seed, many=6, most=3):
    chance = random.Random(f"sum {seed}")
    told = {}
    for _ in range(many):
        spots = sorted(chance.sample([X, Y, Z, (3, 3), (4, 3)], chance.randrange(4)))
        key = tuple((spot, chance.choice([n for n in range(-most, most + 1) if n])) for spot in spots)
        told[key] = chance.choice([1, -1, 2, -2, SIXTY])
    return tuple(sorted(told.items()))


def grid(wide, high, number=1):
    """A SUM of WIDE by HIGH rows: X to 1, 2, .., times Y to 1, 2, ..."""
    return tuple(sorted(((((X, a), (Y, b)), number) for a in range(1, wide + 1) for b in range(1, high + 1))))


def put_by_hand(field, thing):
    total = Fraction(0)
    for powers, number in thing:
        worth = Fraction(number)
        for (x, y), often in powers:
            worth *= Fraction(*field[1][y][x]) ** often
        total += worth
    return pair(total)


class Powers(unittest.TestCase):
    def check(self, thing, number):
        self.assertIs(is_powers(thing), False)
        with self.assertRaises(BadPowers) as caught:
            need_powers(thing)
        self.assertEqual(caught.exception.number, number)

    def test_good_ones(self):
        for thing in GOOD_POWERS:
            self.assertIs(is_powers(thing=thing), True)
            self.assertIsNone(need_powers(thing=thing))
        every = tuple(((x, y), (-1) ** x * (1 + y)) for x in range(11) for y in range(11))
        self.assertIs(is_powers(every), True)

    def test_none_of_no_tuple(self):
        for thing in ODD_THINGS + [[(X, 1)], {X: 1}, {(X, 1)}]:
            if type(thing) is not tuple:
                self.check(thing, None)

    def test_what_is_no_pair_with_its_number(self):
        for thing in no_pairs():
            self.check((thing,), 0)
            self.check((thing, (Z, 1)), 0)
            self.check(((X, 1), (Y, 2), thing), 2)
            self.check(((X, 1), thing, thing), 1)

    def test_not_behind_the_one_ahead(self):
        self.check(((X, 1), (X, 1)), 1)
        self.check(((X, 1), (X, 2)), 1)
        self.check(((Y, 1), (X, 1)), 1)
        self.check(((X, 1), (Z, 1), (Y, 1)), 2)
        self.check(((X, 1), (Y, 1), (Y, 2), (X, 0)), 2)


class Sums(unittest.TestCase):
    def check(self, thing, number):
        self.assertIs(is_sum(thing), False)
        with self.assertRaises(BadSum) as caught:
            need_sum(thing)
        self.assertEqual(caught.exception.number, number)

    def test_good_ones(self):
        for thing in GOOD_SUMS + [grid(70, 70)]:
            self.assertIs(is_sum(thing=thing), True)
            self.assertIsNone(need_sum(thing=thing))

    def test_none_of_no_tuple(self):
        for thing in ODD_THINGS + [[((), 1)], {(): 1}]:
            if type(thing) is not tuple:
                self.check(thing, None)

    def test_what_is_no_row_with_its_number(self):
        last = (((Z, 1),), 1)
        for thing in no_rows():
            self.check((thing,), 0)
            self.check((thing, last), 0)
            self.check((((), 1), (((X, 1),), 2), thing), 2)
            self.check((((), 1), thing, thing), 1)

    def test_not_above_the_one_ahead(self):
        self.check((((), 1), ((), 1)), 1)
        self.check((((), 1), ((), 2)), 1)
        self.check(((((X, 1),), 1), ((), 1)), 1)
        self.check(((((X, 1),), 1), (((X, -1),), 1)), 1)
        self.check((((), 1), (((X, 1),), 1), (((X, 1),), 2), 0), 2)

    def test_refused_the_first_then_the_second(self):
        wrong = [(None, None), ([], None), (((),), 0), ((((), 1), ((), 1)), 1), ((((), 1), (((X, 1),), 1), 5), 2)]
        for function in (sum_plus, sum_times):
            for thing, number in wrong:
                for call in (lambda: function(thing, GOOD_SUMS[1]), lambda: function(GOOD_SUMS[3], thing),
                             lambda: function(thing, "wrong"), lambda: function(one=thing, other=[])):
                    with self.assertRaises(BadSum) as caught:
                        call()
                    self.assertEqual(caught.exception.number, number)
        for thing, number in wrong:
            with self.assertRaises(BadSum) as caught:
                so_often(thing, None)
            self.assertEqual(caught.exception.number, number)


class Reckoning(unittest.TestCase):
    def test_by_hand(self):
        x, y = (((X, 1),), 1), (((Y, 1),), 1)
        self.assertEqual(sum_plus((x,), (y,)), (y, x) if y < x else (x, y))
        self.assertEqual(sum_times((x,), (y,)), ((((X, 1), (Y, 1)), 1),))
        self.assertEqual(sum_plus((x,), ((((X, 1),), -1),)), ())
        self.assertEqual(sum_plus(one=(x,), other=(x,)), ((((X, 1),), 2),))
        self.assertEqual(sum_times((x,), ((((X, -1),), 5),)), (((), 5),))
        self.assertEqual(sum_times(one=(x, y), other=(x, (((Y, 1),), -1))), ((((X, 2),), 1), (((Y, 2),), -1)))
        for thing in GOOD_SUMS:
            self.assertEqual((sum_plus(thing, ()), sum_plus((), thing)), (thing, thing))
            self.assertEqual((sum_times(thing, ()), sum_times((), thing)), ((), ()))
            self.assertEqual((sum_times(thing, (((), 1),)), sum_times((((), 1),), thing)), (thing, thing))

    def test_by_chance(self):
        for seed in range(40):
            one, other = chance_sum(seed), chance_sum(-seed - 1)
            both = {key: as_dict(one).get(key, 0) + as_dict(other).get(key, 0) for key in as_dict(one + other)}
            self.assertEqual(sum_plus(one, other), tuple(sorted((key, n) for key, n in both.items() if n)))
            self.assertEqual(sum_times(one, other), times_by_hand(one, other))
            self.assertEqual(sum_plus(one, so_often(one, -1)), ())
            self.assertEqual(sum_times(one, other), sum_times(other, one))
            third = chance_sum(seed + 100)
            self.assertEqual(sum_times(sum_plus(one, other), third),
                             sum_plus(sum_times(one, third), sum_times(other, third)))
            for told in (sum_plus(one, other), sum_times(one, other)):
                self.assertIs(is_sum(told), True)

    def test_so_often(self):
        thing = GOOD_SUMS[4]
        for number in (1, -1, 2, LONG, -LONG):
            self.assertEqual(so_often(thing=thing, number=number), tuple((key, n * number) for key, n in thing))
        self.assertEqual(so_often(thing, 0), ())
        self.assertEqual(so_often((), 5), ())
        for number in ODD_THINGS + [(1,), "1"]:
            if type(number) is not int:
                with self.assertRaises(BadSum) as caught:
                    so_often(thing, number)
                self.assertIsNone(caught.exception.number)

    def test_numbers_of_however_many_figures(self):
        one = (((), LONG), (((X, 1),), LONG + 1))
        self.assertEqual(sum_times(one, one), (((), LONG * LONG), (((X, 1),), 2 * LONG * (LONG + 1)),
                                               (((X, 2),), (LONG + 1) ** 2)))
        self.assertEqual(sum_plus(one, one), so_often(one, 2))

    def test_many_rows_by_chance(self):
        spots = [(x, y) for x in range(11) for y in range(11)]
        for number, (places, many, most) in enumerate(itertools.product(([X, Y, Z], spots[::40], spots), (3, 4, 12, 40),
                                                                        (1, 49, 99))):
            chance = random.Random(f"many {number}")
            sums = []
            for _ in range(2):
                told = {}
                for _ in range(many):
                    taken = sorted(chance.sample(places, chance.randrange(min(len(places), 6) + 1)))
                    key = tuple((spot, chance.choice([n for n in (1, -1, most, -most, most - 1) if n])) for spot in taken)
                    told[key] = chance.choice([1, -1, 3, LONG])
                sums.append(tuple(sorted(told.items())))
            one, other = sums
            by_hand = times_by_hand(one, other)
            if all(abs(often) <= 99 for powers, _ in by_hand for _, often in powers):
                kept = copy.deepcopy(sums)
                self.assertEqual(sum_times(one, other), by_hand)
                self.assertEqual(sums, kept)
            else:
                self.assertRaises(TooGreat, sum_times, one, other)

    def test_all_powers_are_told_apart(self):
        # Of one SPOT, and the next one, as far to either side as both together go.
        for first, second in itertools.product((-99, -50, -1, 1, 49, 99), repeat=2):
            one = tuple(sorted((((Y, often), (Z, first)), often + 200) for often in range(-49, 50) if often))
            other = (((), 1), (((Y, second), (Z, -first)), -7)) if second in (-50, -1, 1, 49) else (((), 1),)
            self.assertEqual(sum_times(one, other), times_by_hand(one, other))
            self.assertEqual(sum_times(other, one), times_by_hand(one, other))

    def test_what_cancels_is_left_out(self):
        # (1 - X) times (1 + X + .. + X to 98): all but two rows come to 0.
        one = (((), 1), (((X, 1),), -1))
        other = (((), 1),) + tuple((((X, often),), 1) for often in range(1, 99))
        self.assertEqual(sum_times(one, other), (((), 1), (((X, 99),), -1)))
        self.assertEqual(sum_times(other, one), (((), 1), (((X, 99),), -1)))
        self.assertRaises(TooGreat, sum_times, one, other + ((((X, 99),), 1),))

    def test_what_claims_to_be_one(self):
        one = ((((X, 1), (Y, -1)), 3), (((Z, 1),), -1))
        for thing in claims(one):
            self.assertIs(is_sum(thing), False)
            for call in (lambda: sum_times(thing, ()), lambda: sum_plus((), thing), lambda: so_often(thing, 1)):
                self.assertRaises(BadSum, call)
        for thing in claims(one[0][0]):
            self.assertIs(is_powers(thing), False)
            self.assertRaises(BadPowers, need_powers, thing)

    def test_too_great_of_both_numbers_of_rows(self):
        self.assertEqual(len(sum_times(grid(16, 8), grid(16, 8))), 31 * 15)
        self.assertEqual(len(sum_times(grid(16, 16), grid(8, 8))), 23 * 23)
        for one, other in ((grid(43, 3), grid(16, 8)), (grid(16, 8), grid(43, 3)), (grid(70, 70), grid(2, 2))):
            with self.assertRaises(TooGreat) as caught:
                sum_times(one, other)
            self.assertEqual(caught.exception.most, 16384)
        self.assertEqual(sum_times(grid(90, 90), ()), ())

    def test_too_great_where_more_rows_come(self):
        self.assertEqual(letters.MOST_ROWS, 4096)
        many = grid(64, 64)
        self.assertEqual(sum_plus(many, many), so_often(many, 2))
        self.assertEqual(sum_plus(many, ()), many)
        with self.assertRaises(TooGreat) as caught:
            sum_plus(many, (((), 1),))
        self.assertEqual(caught.exception.most, 4096)
        self.assertEqual(len(sum_plus(many, (((), 1), (((X, 1), (Y, 1)), -1)))), 4096)
        self.assertEqual(sum_plus(grid(90, 90), grid(90, 90, -1)), ())
        one = tuple(sorted((((X, a),), 1) for a in range(1, 65)))
        other = tuple(sorted((((Y, b),), 1) for b in range(1, 65)))
        self.assertEqual(sum_times(one, other), many)
        with self.assertRaises(TooGreat) as caught:
            sum_times(one, tuple(sorted(other + (((), 1),))))
        self.assertEqual(caught.exception.most, 4096)

    def test_too_great_where_a_power_is_beyond_99(self):
        for spot, sign in itertools.product((X, Z), (1, -1)):
            one = (((((spot, 50 * sign)),), 1),)
            fits = ((((spot, 49 * sign),), 1),)
            beyond = ((((spot, 50 * sign),), 1),)
            self.assertEqual(sum_times(one, fits), ((((spot, 99 * sign),), 1),))
            with self.assertRaises(TooGreat) as caught:
                sum_times(one, beyond)
            self.assertEqual(caught.exception.most, 4096)
        # What comes to 0 isn't left, but here more stays that is beyond.
        self.assertRaises(TooGreat, sum_times, ((((X, 50),), 1), (((Y, 1),), 1)), ((((X, 50),), 1), (((Y, 1),), -1)))


class PutIn(unittest.TestCase):
    def test_by_hand(self):
        field = (FLAT[0], rows_by(5, 5, lambda x, y: (3, 2) if (x, y) == (1, 1) else ONE))
        self.assertEqual(put_in(field, ()), (0, 1))
        self.assertEqual(put_in(field, (((), 7),)), (7, 1))
        self.assertEqual(put_in(field=field, thing=(((((1, 1), 2),), 3),)), pair(3 * Fraction(*field[1][1][1]) ** 2))

    def test_by_chance(self):
        field = (flat_field(11, 11)[0], worths_for(11, 11))
        for seed in range(40):
            thing = chance_sum(seed)
            self.assertEqual(put_in(field, thing), put_by_hand(field, thing))
            other = chance_sum(seed + 50)
            both = Fraction(*put_in(field, thing)) * Fraction(*put_in(field, other))
            self.assertEqual(put_in(field, sum_times(thing, other)), pair(both))
            both = Fraction(*put_in(field, thing)) + Fraction(*put_in(field, other))
            self.assertEqual(put_in(field, sum_plus(thing, other)), pair(both))

    def test_refused_in_order(self):
        for place, thing in NO_FIELDS:
            with self.assertRaises(BadField) as caught:
                put_in(thing, None)
            self.assertEqual(caught.exception.place, place)
        for thing, number in [(None, None), ([], None), ((1,), 0), ((((), 1), ((), 1)), 1), (((((Z, 1),), 1), 5), 1)]:
            with self.assertRaises(BadSum) as caught:
                put_in(FLAT, thing)
            self.assertEqual(caught.exception.number, number)
        inside = [((), 1), ((((4, 4), 1),), 1)]
        for spot in ((4, 5), (5, 4), (5, 5), Z):
            beyond = ((((0, 0), 1), (spot, 1)), 1)
            for ahead in ([], inside[:1]):
                with self.assertRaises(BadSum) as caught:
                    put_in(FLAT, tuple(sorted(ahead + [beyond] + inside[1:])))
                self.assertEqual(caught.exception.number, len(ahead))


class TheSumOfATarget(unittest.TestCase):
    def test_by_hand(self):
        west, south, own, north, east = (1, 2), (2, 1), (2, 2), (2, 3), (3, 2)
        self.assertEqual(sum_of(FLAT, (2, 2, 2)), (((((west, 1), (own, -1), (east, 1))), 1),
                                                   (((south, 1), (own, -1), (north, 1)), 1)))
        self.assertEqual(sum_of(field=FLAT, target=(2, 2, 2), rule=(-2, 3)),
                         ((((west, 1), (own, -1), (east, 1)), -2), (((south, 1), (own, -1), (north, 1)), 3)))
        self.assertEqual(sum_of(FLAT, (2, 2, 0)), ((((own, 1),), 1),))
        self.assertEqual(sum_of(FLAT, (0, 1, 1), rule=(5, 5)), (((((0, 1), 1),), 1),))

    def test_of_many(self):
        for number, (heights, target) in enumerate(SOME):
            rule = RULES[number % len(RULES)]
            field = (heights, small_worths(heights, number))
            told = sum_of(field, target, rule=rule)
            by_hand = []
            for pairing in pairings_by_hand(heights, target):
                powers = powers_by_hand(heights, target, pairing)
                often_a, often_b = counts_by_hand(pairing)
                by_hand.append((tuple((spot, powers[spot]) for spot in sorted(powers) if powers[spot]),
                                rule[0] ** int(often_a) * rule[1] ** int(often_b)))
            self.assertEqual(told, tuple(sorted(by_hand)))
            self.assertEqual(len(told), len({powers for powers, _ in told}))
            self.assertEqual(put_in(field, told), worth_by_pairings(field, target, rule=rule))
            self.assertEqual(put_in(field, told), pair(sum_by_hand(field, target, rule)))

    def test_by_one_and_one_all_numbers_are_1(self):
        for heights, target in SOME:
            self.assertEqual({number for _, number in sum_of(field_on(heights), target)}, {1})

    def test_the_rule_in_letters(self):
        seen = 0
        for heights in (flat_field(6, 6)[0], low_heights(5, 5, "letters", 20), low_heights(6, 5, "letters", 20)):
            field = field_on(heights)
            good = set(targets_of(heights))
            for (x, y, n), rule in itertools.product(sorted(good), [(1, 1), (2, -3)]):
                if (x, y, n - 2) not in good or how_many(field, (x, y, n)) > 70:
                    continue
                seen += 1
                west, south, north, east = (sum_of(field, (a, b, n - 1), rule=rule) for a, b in near_places(x, y))
                both = sum_times(sum_of(field, (x, y, n), rule=rule), sum_of(field, (x, y, n - 2), rule=rule))
                self.assertEqual(both, sum_plus(so_often(sum_times(west, east), rule[0]),
                                                so_often(sum_times(south, north), rule[1])))
        self.assertGreater(seen, 20)

    def test_whole(self):
        for number, (heights, target) in enumerate(SOME):
            field = (heights, small_worths(heights, number))
            told = Fraction(*worth_by_pairings(field, target)) * Fraction(*closed_worth(field, target))
            self.assertEqual(told.denominator, 1)
            closed = closed_by_hand(heights, target)
            ones = rows_by(len(heights[0]), len(heights),
                           lambda x, y: ((-1) ** x, 1) if (x, y) in closed else field[1][y][x])
            self.assertEqual(worth_by_pairings((heights, ones), target)[1], 1)
            much = rows_by(len(heights[0]), len(heights), lambda x, y: (7 * field[1][y][x][0], 1))
            self.assertEqual(worth_by_pairings((heights, much), target),
                             pair(7 * Fraction(*worth_by_pairings(field, target))))

    def test_closed_worth(self):
        for heights, target in SOME:
            field = field_on(heights)
            value = Fraction(1)
            for x, y in closed_by_hand(heights, target):
                value *= Fraction(*field[1][y][x])
            self.assertEqual(closed_worth(field=field, target=target), pair(value))
        self.assertEqual(closed_worth(FLAT, (2, 2, 0)), (1, 1))

    def test_too_great(self):
        field = flat_field(11, 11)
        for call in (lambda: sum_of(field, (5, 5, 6)), lambda: by_powers(field, (5, 5, 6), ()),
                     lambda: met(field, (5, 5, 6), (0, 0))):
            with self.assertRaises(TooGreat) as caught:
                call()
            self.assertEqual(caught.exception.most, 4096)
        self.assertEqual(len(sum_of(field, (5, 4, 5))), 1024)
        self.assertRaises(BadRule, sum_of, field, (5, 5, 6), rule=(0, 1))
        self.assertRaises(BadPowers, by_powers, field, (5, 5, 6), None)
        self.assertRaises(BadSpot, met, field, (5, 5, 6), None)
        self.assertEqual(most_met(field, (5, 5, 6), (5, 5)), (-1, 1))
        self.assertEqual(outcome(closed_worth, field, (5, 5, 6))[0], "told")


class ByPowers(unittest.TestCase):
    def test_there_and_back(self):
        for heights, target in SOME:
            field = field_on(heights)
            for pairing in pairings(field, target)[::3]:
                self.assertEqual(by_powers(field=field, target=target, powers=powers_of(field, target, pairing)), pairing)

    def test_none_without(self):
        self.assertIsNone(by_powers(FLAT, (2, 2, 2), ()))
        self.assertIsNone(by_powers(FLAT, (2, 2, 2), (((2, 2), 1),)))
        self.assertIsNone(by_powers(FLAT, (2, 2, 2), ((Z, 99),)))
        self.assertIsNone(by_powers(FLAT, (2, 2, 2), (((1, 2), 1), ((2, 2), -1))))
        self.assertEqual(by_powers(FLAT, (2, 2, 0), (((2, 2), 1),)), ())
        self.assertEqual(by_powers(FLAT, (2, 2, 2), (((1, 2), 1), ((2, 2), -1), ((3, 2), 1))), UPRIGHT)

    def test_unlike_pairings_have_unlike_powers(self):
        for heights, target in SOME:
            every = [tuple(powers_by_hand(heights, target, pairing).items())
                     for pairing in pairings_by_hand(heights, target)]
            self.assertEqual(len(every), len(set(every)))


class Met(unittest.TestCase):
    def test_by_hand(self):
        told = {spot: met(FLAT, (2, 2, 2), spot) for spot in places_of(FLAT[0])}
        self.assertEqual(told.pop((2, 2)), (-1,))
        for spot in ((1, 2), (2, 1), (2, 3), (3, 2)):
            self.assertEqual(told.pop(spot), (0, 1))
        self.assertEqual(set(told.values()), {(0,)})
        self.assertEqual(met(field=FLAT, target=(2, 2, 0), spot=(2, 2)), (1,))
        self.assertEqual(met(FLAT, (2, 2, 0), (2, 3)), (0,))
        self.assertEqual(most_met(FLAT, (2, 2, 2), (2, 2)), (-1, 1))
        self.assertEqual(most_met(field=FLAT, target=(2, 2, 2), spot=(2, 1)), (0, 1))
        self.assertEqual(most_met(FLAT, (2, 2, 2), (1, 1)), (0, 0))
        self.assertEqual(most_met(FLAT, (2, 2, 0), (2, 2)), (1, 1))
        self.assertEqual(most_met(FLAT, (2, 2, 0), (1, 2)), (0, 0))

    def test_of_many(self):
        seen = set()
        for heights, target in SOME:
            field = field_on(heights)
            every = [powers_by_hand(heights, target, pairing) for pairing in pairings_by_hand(heights, target)]
            closed, wide_open = closed_by_hand(heights, target), open_by_hand(heights, target)
            for spot in places_of(heights):
                found = sorted({powers[spot] for powers in every})
                self.assertEqual(met(field, target, spot), tuple(found))
                bounds = most_met(field, target, spot)
                self.assertTrue(bounds[0] <= found[0] and found[-1] <= bounds[1])
                ties = sum(spot in tie for tie in web_by_hand(heights, target))
                if not closed and spot == target[:2]:
                    self.assertEqual(bounds, (1, 1))
                elif spot in closed:
                    self.assertEqual(bounds, (-1, ties // 2 - 1))
                    seen.add(bounds)
                elif spot in wide_open and ties:
                    self.assertEqual(bounds, (0, 1))
                else:
                    self.assertEqual(bounds, (0, 0))
        self.assertLessEqual({(-1, 1), (-1, 2), (-1, 3)}, seen)

    def test_refused_in_order(self):
        for call in (met, most_met):
            for thing in no_spots(5, 5):
                self.assertRaises(BadSpot, call, FLAT, (2, 2, 2), thing)
                self.assertRaises(BadTarget, call, FLAT, (2, 2, 4), thing)


WEIGHINGS = [(2, (1, 1), (1, 1), (1, 1)), (2, (0, 1), (1, 1), (1, 1)), (2, (1, 1), (0, 1), (1, 1)),
             (2, (1, 1), (1, 1), (0, 1)), (3, (1, -2), (9, -9), (4, 7)), (-3, (2, 5), (1, 1), (-1, 0)),
             (0, (1, 2), (3, 4), (5, 6)), (1, (1, 0), (0, 1), (7, 7)), (-1, (0, 0), (1, 2), (3, 4)), (2, (3, 5), (-1, 4), (2, 2))]
NO_WEIGHINGS = [(None, thing) for thing in ODD_THINGS] + [
    (None, list(WEIGHINGS[0])), (None, WEIGHINGS[0][:3]), (None, WEIGHINGS[0] + ((1, 1),)), (None, ()),
    (0, (4, None, None, None)), (0, (-4, (1, 1), (1, 1), (1, 1))), (0, (True, (1, 1), (1, 1), (1, 1))),
    (0, (1.0, (1, 1), (1, 1), (1, 1))), (0, (None,) * 4), (0, ((1, 1),) * 4), (0, ("1", (1, 1), (1, 1), (1, 1)))]


class Weights(unittest.TestCase):
    def test_by_hand(self):
        self.assertEqual(weight((2, (1, 1), (1, 1), (1, 1)), 3, 4, -5), 1)
        self.assertEqual(weight((2, (0, 1), (1, 1), (1, 1)), 3, 4, -5), 3)
        self.assertEqual(weight((2, (1, 1), (0, 1), (1, 1)), 3, 4, -5), 4)
        self.assertEqual(weight(weighing=(2, (1, 1), (1, 1), (0, 1)), x=3, y=4, height=-5), -5)
        # 1, 2, 5, 13, 34 by 3; and to the other side 1, 1, 2, 5, 13.
        self.assertEqual([weight((3, (1, 2), (1, 2), (1, 2)), x, 0, 0) for x in range(5)], [1, 2, 5, 13, 34])
        self.assertEqual([weight((3, (1, 2), (1, 2), (1, 2)), 0, 0, -h) for h in range(5)], [1, 1, 2, 5, 13])

    def test_each_number_by_the_two_beside_it(self):
        for weighing in WEIGHINGS:
            step = weighing[0]
            for part, pair_told in enumerate(weighing[1:]):
                parts = tuple(pair_told if part == other else (1, 0) for other in range(3))
                row = {}
                for place in range(-40 if part == 2 else 0, 41 if part == 2 else 11):
                    at = [0, 0, 0]
                    at[part] = place
                    row[place] = weight((step,) + parts, *at)
                self.assertEqual((row[0], row[1]), pair_told)
                for place in list(row)[1:-1]:
                    self.assertEqual(row[place - 1] + row[place + 1], step * row[place])

    def test_the_product_of_three(self):
        for step, xs, ys, hs in WEIGHINGS:
            for x, y, h in itertools.product((0, 1, 5, 10), (0, 1, 3, 10), (-40, -7, 0, 1, 40)):
                self.assertEqual(weight((step, xs, ys, hs), x, y, h),
                                 weight((step, xs, (1, 0), (1, 0)), x, 0, 0) * weight((step, (1, 0), ys, (1, 0)), 0, y, 0)
                                 * weight((step, (1, 0), (1, 0), hs), 0, 0, h))

    def test_it_is_a_weight(self):
        for weighing in WEIGHINGS:
            for x, y, h in itertools.product(range(1, 10), range(1, 10), range(-39, 40, 6)):
                side = weight(weighing, x - 1, y, h) + weight(weighing, x + 1, y, h)
                self.assertEqual(side, weight(weighing, x, y - 1, h) + weight(weighing, x, y + 1, h))
                self.assertEqual(side, weight(weighing, x, y, h - 1) + weight(weighing, x, y, h + 1))

    def test_moments_of_pairings_are_the_weight_of_the_target(self):
        for number, (heights, target) in enumerate(SOME):
            field = field_on(heights)
            for pairing in pairings(field, target)[::7]:
                powers = powers_of(field, target, pairing)
                for weighing in WEIGHINGS[number % 3::3]:
                    self.assertEqual(moment(field=field, powers=powers, weighing=weighing), weight(weighing, *target))
                self.assertEqual(sum(often for _, often in powers), 1)
                self.assertEqual(sum(often * x for (x, _), often in powers), target[0])
                self.assertEqual(sum(often * heights[y][x] for (x, y), often in powers), target[2])
                self.assertEqual(sum(often * x * heights[y][x] for (x, y), often in powers), target[0] * target[2])

    def test_each_worth_times_a_power_of_its_weight(self):
        for heights, target in SOME[::6]:
            weighing = (2, (1, 1), (0, 1), (1, 1))
            field = field_on(heights)
            laden = (heights, rows_by(len(heights[0]), len(heights), lambda x, y: pair(
                Fraction(*field[1][y][x]) * Fraction(2) ** weight(weighing, x, y, heights[y][x]))))
            self.assertEqual(worth_at(laden, *target),
                             pair(Fraction(*worth_at(field, *target)) * 2 ** weight(weighing, *target)))

    def test_bad_weighing_with_its_place(self):
        wrong = list(NO_WEIGHINGS)
        for place in (1, 2, 3):
            for thing in [None, (1,), (1, 1, 1), [1, 1], (10, 1), (1, -10), (True, 1), (1, False), (1.0, 1), "11", 1, ()]:
                parts = [2, (1, 1), (1, 1), (1, 1)]
                parts[place] = thing
                wrong.append((place, tuple(parts)))
                wrong.append((place, tuple(parts[:place + 1] + [None] * (3 - place))))
        for place, thing in wrong:
            for call in (lambda: weight(thing, 0, 0, 0), lambda: moment(FLAT, (), thing)):
                with self.assertRaises(BadWeighing, msg=repr(thing)[:80]) as caught:
                    call()
                self.assertEqual(caught.exception.place, place)

    def test_moment_by_hand_and_refused_in_order(self):
        self.assertEqual(moment(FLAT, (), WEIGHINGS[0]), 0)
        self.assertEqual(moment(FLAT, (((1, 1), 3), ((1, 2), -1)), (2, (0, 1), (1, 1), (0, 1))), -1)
        for place, thing in NO_FIELDS:
            with self.assertRaises(BadField) as caught:
                moment(thing, None, None)
            self.assertEqual(caught.exception.place, place)
        for thing, number in [(None, None), ([], None), ((1,), 0), (((X, 1), (X, 1)), 1), (((X, 1), (Z, 1), 5), 2),
                              (((X, 1), (Z, 1)), 1), (((X, 1), ((0, 5), 1)), 1), ((((5, 0), 1),), 0)]:
            with self.assertRaises(BadPowers) as caught:
                moment(FLAT, thing, None)
            self.assertEqual(caught.exception.number, number)


class Refused(unittest.TestCase):
    def test_bad_field_then_bad_target_then_bad_rule(self):
        def calls(field):
            return [lambda target: sum_of(field, target, rule=None), lambda target: by_powers(field, target, None),
                    lambda target: met(field, target, None), lambda target: most_met(field, target, None),
                    lambda target: closed_worth(field, target)]
        for place, thing in NO_FIELDS:
            for call in calls(thing):
                with self.assertRaises(BadField) as caught:
                    call(None)
                self.assertEqual(caught.exception.place, place)
        for call in calls(FLAT):
            for thing in no_targets((2, 2, 2)):
                if thing != (2, 2, 0):
                    self.assertRaises(BadTarget, call, thing)
        for rule in NO_RULES:
            self.assertRaises(BadRule, sum_of, FLAT, (2, 2, 2), rule=rule)
        self.assertRaises(TypeError, sum_of, FLAT, (2, 2, 2), (1, 1))
        for thing, number in [(None, None), ([], None), ((1,), 0), (((X, 1), (X, 1)), 1)]:
            with self.assertRaises(BadPowers) as caught:
                by_powers(FLAT, (2, 2, 2), thing)
            self.assertEqual(caught.exception.number, number)

    def test_the_field_of_the_target_has_the_sum_as_its_worth(self):
        for heights, target in SOME[::5]:
            field = field_on(heights)
            x, y, _ = target
            self.assertEqual(put_in(field, sum_of(field, target)), worth_at(field, *target))
            self.assertEqual(target_heights(heights, target)[y][x], target[2])


if __name__ == "__main__":
    unittest.main()
