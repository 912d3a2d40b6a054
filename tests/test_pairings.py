"""hollowrise.pairings: PAIRINGS, their numbers, POWERS and WORTHS."""

import itertools
import random
import time
import unittest
from fractions import Fraction

from hollowrise import pairings as module
from hollowrise.errors import BadField, BadPairing, BadRule, BadTarget, TooGreat
from hollowrise.fields import mirrored, turned, with_worth
from hollowrise.pairings import (
    how_many, is_pairing, need_pairing, nth_pairing, number_of, pairing_worth, pairings, powers_of, rule_counts,
    worth_by_pairings)
from hollowrise.reach import worth_at
from hollowrise.webs import ends, knots, web
from tests.plain import ONE, RULES, bounds_at, outcome, places_of
from tests.plain_webs import (
    closed_by_hand, counts_by_hand, field_on, low_heights, open_by_hand, pair, pairings_by_hand, powers_by_hand,
    small_worths, some_targets, sum_by_hand, targets_of, web_by_hand, worth_of_pairing)
from tests.samples import ODD_THINGS, claims, flat_field, rows_by, steep_field, worths_for
from tests.test_deeds import NO_RULES
from tests.test_fields import NO_FIELDS
from tests.test_targets import no_targets

FLAT = flat_field(5, 5)
ONES = (FLAT[0], rows_by(5, 5, lambda x, y: ONE))
LEVEL = (((1, 2), (2, 2)), ((2, 2), (3, 2)))
UPRIGHT = (((2, 1), (2, 2)), ((2, 2), (2, 3)))
SOME = some_targets()
HAND = {pair: pairings_by_hand(*pair) for pair in SOME}

# (3, 4) of a flat board of 7 by 9 has 64 PAIRINGS by N 4.
FLAT_7_9 = flat_field(7, 9)
# Of a slope: 4096 of one TARGET, more of the next.
SLOPE = (rows_by(11, 11, lambda x, y: abs(x - y)), worths_for(11, 11))


def ones_on(heights):
    return (heights, rows_by(len(heights[0]), len(heights), lambda x, y: ONE))


def refused_with(call, *places):
    """The number of the BadPairing with which it is refused."""
    try:
        call(*places)
    except BadPairing as refusal:
        return refusal.number
    raise AssertionError("it isn't refused")


class WhichTheyAre(unittest.TestCase):
    def test_by_hand(self):
        self.assertEqual(pairings(FLAT, (2, 2, 2)), [LEVEL, UPRIGHT])
        self.assertEqual(how_many(FLAT, (2, 2, 2)), 2)
        self.assertEqual(pairings(FLAT, (2, 2, 0)), [()])
        self.assertEqual(how_many(field=FLAT, target=(0, 1, 1)), 1)
        self.assertEqual(pairings(field=FLAT, target=(0, 1, 1)), [()])
        self.assertIs(is_pairing(FLAT, (2, 2, 2), LEVEL), True)
        self.assertIs(is_pairing(FLAT, (2, 2, 2), LEVEL + UPRIGHT), False)

    def test_all_of_many_targets(self):
        for (heights, target), every in HAND.items():
            field = field_on(heights)
            self.assertEqual(pairings(field, target), every)
            self.assertEqual(how_many(field, target), len(every))
            for pairing in every:
                self.assertIs(is_pairing(field, target, pairing), True)
                self.assertIsNone(need_pairing(field, target, pairing))

    def test_each_knot_is_an_end_of_just_one(self):
        for heights, target in [(SLOPE[0], (7, 3, 6)), (flat_field(9, 9)[0], (4, 4, 4)),
                                (low_heights(8, 8, "one", 20), None)]:
            if target is None:
                target = next((x, y, n) for x, y, n in targets_of(heights) if n - heights[y][x] == 4)
            field = field_on(heights)
            every = knots(field, target)
            told = {tie: ends(field, tie) for tie in web(field, target)}
            for pairing in pairings(field, target):
                self.assertEqual(tuple(sorted(knot for tie in pairing for knot in told[tie])), every)
                self.assertEqual(pairing, tuple(sorted(pairing)))

    def test_rising_and_a_new_list_each_time(self):
        told = pairings(FLAT_7_9, (3, 4, 3))
        self.assertEqual(told, sorted(told))
        self.assertIs(type(told), list)
        kept = list(told)
        told.clear()
        self.assertEqual(pairings(FLAT_7_9, (3, 4, 3)), kept)


class NeedPairing(unittest.TestCase):
    def check(self, field, target, thing, number):
        self.assertIs(is_pairing(field, target, thing), False)
        self.assertEqual(refused_with(need_pairing, field, target, thing), number)

    def test_none_of_no_tuple(self):
        for thing in ODD_THINGS + [list(LEVEL), {tie: True for tie in LEVEL}, set(LEVEL), iter(LEVEL)]:
            if type(thing) is not tuple:
                self.check(FLAT, (2, 2, 2), thing, None)
                self.check(FLAT, (2, 2, 0), thing, None)

    def test_no_tie_of_the_web(self):
        one, other = LEVEL
        odd = [thing for thing in ODD_THINGS if thing not in LEVEL] + [
            (one[1], one[0]), (one[0], one[0]), list(one), (list(one[0]), one[1]), one[0], one + one, (one,),
            ((1, 2), (2, 2.0)), ((True, 2), (2, 2)), ((1, 1), (1, 2)), ((1, 1), (2, 2)), ((0, 0), (0, 1)), "ab"]
        for thing in odd:
            self.check(FLAT, (2, 2, 2), (thing, other), 0)
            self.check(FLAT, (2, 2, 2), (one, thing), 1)
            self.check(FLAT, (2, 2, 2), (one, other, thing), 2)
            self.check(FLAT, (2, 2, 0), (thing,), 0)
        # A good TIE of the FIELD, of another WEB.
        self.check(FLAT, (2, 2, 2), (one, ((2, 3), (3, 3))), 1)

    def test_what_claims_to_be_one(self):
        field = flat_field(7, 7)
        for target in [(2, 2, 2), (3, 3, 4), (3, 2, 3)]:
            pairing = pairings(field, target)[0]
            for thing in claims(pairing):
                self.assertIs(is_pairing(field, target, thing), False)
            for number, tie in enumerate(pairing):
                for thing in claims(tie):
                    self.check(field, target, pairing[:number] + (thing,) + pairing[number + 1:], number)
            for thing in claims(target):
                self.assertRaises(BadTarget, need_pairing, field, thing, pairing)
                self.assertRaises(BadTarget, is_pairing, field, thing, pairing)

    def number_by_hand(self, heights, target, thing):
        """As need_pairing tells it, of a tuple of TIES and of pairs of places that are none; None of a PAIRING."""
        web = web_by_hand(heights, target)
        ahead, paired = None, set()
        for number, tie in enumerate(thing):
            if tie not in web or ahead is not None and tie <= ahead or paired & set(web[tie]):
                return number
            ahead = tie
            paired |= set(web[tie])
        return None if paired == {knot for ends in web.values() for knot in ends} else len(thing)

    def test_what_is_one_but_for_a_little(self):
        chance = random.Random("a little")
        for (heights, target), every in HAND.items():
            field, web = field_on(heights), list(web_by_hand(heights, target))
            others = web + [((x, y), (x + a, y + b)) for x, y in places_of(heights) for a, b in
                            ((0, 1), (1, 0), (1, 1), (1, -1), (0, 0), (-1, 0), (2, 0), (1, 2))]
            for _ in range(25):
                thing = list(chance.choice(every))
                for _ in range(chance.choice([1, 1, 2])):
                    at = chance.randrange(len(thing) + 1)
                    thing[at:at + chance.choice([0, 1])] = chance.sample(others, chance.choice([0, 1, 1]))
                number = self.number_by_hand(heights, target, tuple(thing))
                if number is None:
                    self.assertIsNone(need_pairing(field, target, tuple(thing)))
                else:
                    self.check(field, target, tuple(thing), number)

    def test_not_above_the_one_ahead(self):
        for pairing in (LEVEL, UPRIGHT):
            one, other = pairing
            self.check(FLAT, (2, 2, 2), (other, one), 1)
            self.check(FLAT, (2, 2, 2), (one, one), 1)
            self.check(FLAT, (2, 2, 2), (one, other, other), 2)

    def test_ends_where_one_ahead_ends(self):
        self.check(FLAT, (2, 2, 2), (LEVEL[0], UPRIGHT[0]), 1)
        self.check(FLAT, (2, 2, 2), (LEVEL[0], UPRIGHT[1]), 1)
        self.check(FLAT, (2, 2, 2), LEVEL[:1] + UPRIGHT[:1] + LEVEL[1:], 1)

    def test_how_many_there_are_where_a_knot_is_left(self):
        self.check(FLAT, (2, 2, 2), (), 0)
        for tie in LEVEL + UPRIGHT:
            self.check(FLAT, (2, 2, 2), (tie,), 1)

    def test_of_many_changed_ones(self):
        chance = random.Random("changed pairings")
        for (heights, target), every in HAND.items():
            field = field_on(heights)
            ties = web(field, target)
            for _ in range(8):
                pairing = list(chance.choice(every))
                if not pairing:
                    continue
                kind = chance.randrange(5)
                at = chance.randrange(len(pairing))
                if kind == 0:
                    del pairing[at]
                elif kind == 1:
                    pairing[at] = chance.choice(ties)
                elif kind == 2:
                    pairing.insert(at, chance.choice(ties))
                elif kind == 3:
                    pairing[at], pairing[-1] = pairing[-1], pairing[at]
                else:
                    pairing = sorted(chance.sample(ties, len(pairing)))
                thing = tuple(pairing)
                if thing in every:
                    self.assertIsNone(need_pairing(field, target, thing))
                else:
                    self.check(field, target, thing, self.by_hand(field, target, thing))

    def by_hand(self, field, target, thing):
        ties = web(field, target)
        for number, tie in enumerate(thing):
            ahead = [knot for other in thing[:number] for knot in ends(field, other)]
            if tie not in ties or number > 0 and tie <= thing[number - 1] or set(ahead) & set(ends(field, tie)):
                return number
        return len(thing)


class HowMany(unittest.TestCase):
    def test_flat_fields(self):
        for n in range(1, 7):
            field = flat_field(11, 11)
            target = (5, 5, n) if n % 2 == 0 else (5, 4, n)
            self.assertEqual(how_many(field, target), 2 ** (n * (n - 1) // 2))

    def test_however_great_in_a_moment(self):
        begun = time.perf_counter()
        self.assertEqual(how_many(flat_field(11, 11), (5, 5, 6)), 32768)
        low = rows_by(11, 11, lambda x, y: bounds_at(flat_field(11, 11)[0], x, y)[0])
        self.assertEqual(how_many(field_on(low), (5, 5, 6)), 98898048)
        self.assertLess(time.perf_counter() - begun, 5)

    def test_by_ones_it_is_the_worth(self):
        for heights in [low_heights(11, 11, "ones", 30), low_heights(9, 7, "ones", 30), steep_field(8, 8, 30)[0],
                        SLOPE[0]]:
            field = ones_on(heights)
            for target in targets_of(heights)[::9]:
                self.assertEqual((how_many(field, target), 1), worth_at(field, *target))

    def test_turned_and_mirrored_as_many(self):
        for heights, (x, y, n) in SOME:
            field = field_on(heights)
            east = len(heights[0]) - 1
            many = how_many(field, (x, y, n))
            self.assertEqual(how_many(turned(field), (y, x, n)), many)
            self.assertEqual(how_many(mirrored(field), (east - x, y, n + east % 2)), many)


class Numbers(unittest.TestCase):
    def test_there_and_back(self):
        for (heights, target), every in HAND.items():
            field = field_on(heights)
            for number, pairing in enumerate(every):
                self.assertEqual(nth_pairing(field, target, number), pairing)
                self.assertEqual(number_of(field, target, pairing), number)

    def test_of_the_most(self):
        field, target = SLOPE, (7, 3, 8)
        self.assertEqual(how_many(field, target), 4096)
        every = pairings(field=field, target=target)
        self.assertEqual((len(every), every), (4096, sorted(every)))
        for number in (0, 1, 77, 2047, 2048, 4094, 4095):
            self.assertEqual(nth_pairing(field=field, target=target, number=number), every[number])
            self.assertEqual(number_of(field=field, target=target, pairing=every[number]), number)

    def test_what_is_no_number_of_one(self):
        for thing in ODD_THINGS + [2, 3, -1, -2, (0,), "0", True, False, 0.0, 10 ** 999, -10 ** 999, [0]]:
            if type(thing) is not int or thing not in (0, 1):
                self.assertIsNone(refused_with(nth_pairing, FLAT, (2, 2, 2), thing))
            if type(thing) is not int or thing != 0:
                self.assertIsNone(refused_with(nth_pairing, FLAT, (2, 2, 0), thing))
        self.assertEqual(nth_pairing(FLAT, (2, 2, 0), 0), ())


class TooMany(unittest.TestCase):
    def test_just_where_there_are_more_than_4096(self):
        self.assertEqual(module.MOST_PAIRINGS, 4096)
        great = []
        for heights in [SLOPE[0], flat_field(11, 11)[0], low_heights(11, 11, "few", 20), low_heights(10, 9, "few", 20)]:
            field = field_on(heights)
            for target in targets_of(heights)[::5]:
                many = how_many(field, target)
                if 500 < many < 50000:
                    great.append(many > 4096)
                    for call in (pairings, lambda *places: nth_pairing(*places, many - 1), worth_by_pairings):
                        told = outcome(call, field, target)
                        self.assertEqual(told if many > 4096 else told[0],
                                         ("TooGreat", {"most": 4096}) if many > 4096 else "told")
        self.assertEqual(set(great), {True, False})

    def test_behind_all_else(self):
        field, target = flat_field(11, 11), (5, 5, 6)
        first = self.first_of(field, target)
        for call in (lambda: pairings(field, target), lambda: nth_pairing(field, target, 0),
                     lambda: nth_pairing(field, target, 32767), lambda: number_of(field, target, first),
                     lambda: worth_by_pairings(field, target), lambda: worth_by_pairings(field, target, rule=(1, -1))):
            with self.assertRaises(TooGreat) as caught:
                call()
            self.assertEqual(caught.exception.most, 4096)
        self.assertIsNone(refused_with(nth_pairing, field, target, 32768))
        self.assertIsNone(refused_with(nth_pairing, field, target, -1))
        self.assertIsNone(refused_with(number_of, field, target, list(first)))
        self.assertEqual(refused_with(number_of, field, target, first[:-1]), len(first) - 1)
        self.assertRaises(BadRule, worth_by_pairings, field, target, rule=(0, 1))

    def test_what_asks_for_one_pairing_alone_isnt_refused(self):
        field, target = ones_on(flat_field(11, 11)[0]), (5, 5, 6)
        first = self.first_of(field, target)
        self.assertIs(is_pairing(field, target, first), True)
        self.assertEqual(dict(powers_of(field, target, first)),
                         {spot: power for spot, power in powers_by_hand(field[0], target, first).items() if power})
        self.assertEqual(rule_counts(field, target, first), counts_by_hand(first))
        self.assertEqual(sum(rule_counts(field, target, first)), 15)
        self.assertEqual(pairing_worth(field, target, first, rule=(2, 3)),
                         pair(worth_of_pairing(field, target, first, (2, 3))))

    def first_of(self, field, target):
        """The PAIRING of SIDES between SPOTS side by side alone: KNOTS above one another, two by two from the south."""
        every = knots(field, target)
        ties = []
        for column in {x for x, _, _ in every}:
            rows = sorted(y for x, y, _ in every if x == column)
            ties += [((column, y), (column + 1, y)) for y in rows[1::2]]
        return tuple(sorted(ties))


class Powers(unittest.TestCase):
    def test_by_hand(self):
        around = [(1, 2), (2, 1), (2, 3), (3, 2)]
        self.assertEqual(powers_of(FLAT, (2, 2, 2), LEVEL), ((around[1], 1), ((2, 2), -1), (around[2], 1)))
        self.assertEqual(powers_of(field=FLAT, target=(2, 2, 2), pairing=UPRIGHT),
                         ((around[0], 1), ((2, 2), -1), (around[3], 1)))
        self.assertEqual(powers_of(FLAT, (2, 2, 0), ()), (((2, 2), 1),))
        self.assertEqual(powers_of(FLAT, (0, 1, 1), ()), (((0, 1), 1),))
        self.assertEqual(rule_counts(FLAT, (2, 2, 2), LEVEL), (0, 1))
        self.assertEqual(rule_counts(field=FLAT, target=(2, 2, 2), pairing=UPRIGHT), (1, 0))
        self.assertEqual(rule_counts(FLAT, (2, 2, 0), ()), (0, 0))

    def test_of_many_pairings(self):
        seen = set()
        for (heights, target), every in HAND.items():
            field = field_on(heights)
            for pairing in every[::3]:
                by_hand = powers_by_hand(heights, target, pairing)
                self.assertEqual(powers_of(field, target, pairing),
                                 tuple((spot, by_hand[spot]) for spot in sorted(by_hand) if by_hand[spot]))
                self.assertEqual(rule_counts(field, target, pairing), counts_by_hand(pairing))
                closed = closed_by_hand(heights, target)
                for spot in places_of(heights):
                    if spot in closed:
                        self.assertIn(by_hand[spot], (-1, 0, 1, 2, 3))
                        seen.add(by_hand[spot])
                    elif spot in open_by_hand(heights, target):
                        self.assertIn(by_hand[spot], (0, 1))
                    else:
                        self.assertEqual(by_hand[spot], 0)
        self.assertLessEqual({-1, 0, 1, 2}, seen)

    def test_worths_of_many_pairings(self):
        for number, ((heights, target), every) in enumerate(HAND.items()):
            rule = RULES[number % len(RULES)]
            field = field_on(heights)
            for pairing in every[::5]:
                self.assertEqual(pairing_worth(field, target, pairing, rule=rule),
                                 pair(worth_of_pairing(field, target, pairing, rule)))

    def test_left_out_the_rule_is_one_and_one(self):
        self.assertEqual(pairing_worth(FLAT, (2, 2, 2), LEVEL), pairing_worth(FLAT, (2, 2, 2), LEVEL, rule=(1, 1)))
        self.assertEqual(worth_by_pairings(FLAT, (2, 2, 2)), worth_by_pairings(FLAT, (2, 2, 2), rule=(1, 1)))
        self.assertRaises(TypeError, pairing_worth, FLAT, (2, 2, 2), LEVEL, (1, 1))
        self.assertRaises(TypeError, worth_by_pairings, FLAT, (2, 2, 2), (1, 1))


class TheSum(unittest.TestCase):
    def test_by_hand(self):
        worths = dict(zip([(1, 2), (2, 1), (2, 3), (3, 2), (2, 2)], [(2, 1), (3, 5), (7, 1), (-4, 3), (5, 2)]))
        field = ONES
        for spot, worth in worths.items():
            field = with_worth(field, spot, worth)
        # 2 * 2 * -4/3 + 3 * 3/5 * 7 = 109/15, by 5/2 it is 218/75.
        self.assertEqual(worth_by_pairings(field=field, target=(2, 2, 2), rule=(2, 3)),
                         pair((2 * 2 * Fraction(-4, 3) + 3 * Fraction(3, 5) * 7) / Fraction(5, 2)))
        self.assertEqual(worth_by_pairings(field, (2, 2, 0), rule=(2, 3)), (5, 2))

    def test_is_the_worth_where_no_worth_on_the_way_is_0(self):
        for number, (heights, target) in enumerate(SOME):
            rule = RULES[number % len(RULES)]
            field = field_on(heights)
            by_hand = sum_by_hand(field, target, rule)
            self.assertEqual(worth_by_pairings(field, target, rule=rule), pair(by_hand))
            self.assertEqual(worth_at(field, *target, rule=rule), pair(by_hand))

    def test_told_also_where_one_is(self):
        met = {"0": 0, "another": 0}
        for number, (heights, target) in enumerate(SOME):
            for seed, rule in itertools.product(range(4), [(1, 1), (1, -1), (-2, 1)]):
                field = (heights, small_worths(heights, f"{number} {seed}", (1, -1, 1, -1, 2)))
                told = outcome(worth_at, field, *target, rule=rule)
                by_hand = sum_by_hand(field, target, rule)
                self.assertEqual(worth_by_pairings(field, target, rule=rule), pair(by_hand))
                if told[0] == "Nought":
                    met["0" if by_hand == 0 else "another"] += 1
                else:
                    self.assertEqual(told, ("told", pair(by_hand)))
        self.assertGreater(min(met.values()), 20)

    def test_by_ones_how_many_there_are(self):
        for heights, target in SOME:
            field = ones_on(heights)
            self.assertEqual(worth_by_pairings(field, target), (how_many(field, target), 1))
        field = ones_on(SLOPE[0])
        self.assertEqual(worth_by_pairings(field, (7, 3, 8)), (4096, 1))
        self.assertEqual(worth_by_pairings(field, (7, 3, 8), rule=(1, -1))[1], 1)

    def test_of_flat_fields(self):
        for (a, b), n in itertools.product([(1, 1), (2, 3), (1, -1), (-9, 4)], range(1, 5)):
            field = ones_on(flat_field(9, 9)[0])
            target = (4, 4, n) if n % 2 == 0 else (4, 3, n)
            self.assertEqual(worth_by_pairings(field, target, rule=(a, b)), ((a + b) ** (n * (n - 1) // 2), 1))

    def test_only_closed_ones_are_divided_by(self):
        for heights, target in SOME:
            field = (heights, small_worths(heights, "whole"))
            closed = closed_by_hand(heights, target)
            above = worth_by_pairings(field, target)
            for spot in closed:
                above = pair(Fraction(*above) * field[1][spot[1]][spot[0]][0])
            self.assertEqual(above[1], 1)

    def test_hangs_on_closed_and_open_spots_alone(self):
        for heights, target in SOME[::3]:
            field = other = (heights, small_worths(heights, "far"))
            near = closed_by_hand(heights, target) + open_by_hand(heights, target)
            for spot in places_of(heights):
                if spot not in near:
                    other = with_worth(other, spot, (-977, 13))
            self.assertEqual(worth_by_pairings(field, target), worth_by_pairings(other, target))

    def test_turned_and_mirrored(self):
        for heights, (x, y, n) in SOME:
            field = (heights, small_worths(heights, "turned"))
            east = len(heights[0]) - 1
            told = worth_by_pairings(field, (x, y, n), rule=(2, -3))
            self.assertEqual(worth_by_pairings(turned(field), (y, x, n), rule=(-3, 2)), told)
            self.assertEqual(worth_by_pairings(mirrored(field), (east - x, y, n + east % 2), rule=(2, -3)), told)

    def test_with_long_numbers(self):
        heights = FLAT_7_9[0]
        field = (heights, rows_by(7, 9, lambda x, y: (10 ** 900 + 11 * y + x + 1, 1)))
        self.assertEqual(worth_by_pairings(field, (3, 4, 3), rule=(9, -9)), worth_at(field, 3, 4, 3, rule=(9, -9)))


class Refused(unittest.TestCase):
    def calls(self, field):
        return [lambda target: is_pairing(field, target, None), lambda target: need_pairing(field, target, None),
                lambda target: how_many(field, target), lambda target: pairings(field, target),
                lambda target: nth_pairing(field, target, None), lambda target: number_of(field, target, None),
                lambda target: powers_of(field, target, None), lambda target: rule_counts(field, target, None),
                lambda target: pairing_worth(field, target, None, rule=None),
                lambda target: worth_by_pairings(field, target, rule=None)]

    def test_bad_field_then_bad_target(self):
        for place, thing in NO_FIELDS:
            for call in self.calls(thing):
                with self.assertRaises(BadField) as caught:
                    call(None)
                self.assertEqual(caught.exception.place, place)
        for call in self.calls(FLAT):
            for thing in no_targets((2, 2, 2)):
                if thing != (2, 2, 0):
                    self.assertRaises(BadTarget, call, thing)

    def test_bad_pairing_then_bad_rule(self):
        for thing, number in ((None, None), ([], None), ((), 0), (LEVEL[:1], 1), (LEVEL[::-1], 1), ((1, 2), 0),
                              (LEVEL + UPRIGHT, 2)):
            for call in (lambda: number_of(FLAT, (2, 2, 2), thing), lambda: powers_of(FLAT, (2, 2, 2), thing),
                         lambda: rule_counts(FLAT, (2, 2, 2), thing),
                         lambda: pairing_worth(FLAT, (2, 2, 2), thing), lambda: need_pairing(FLAT, (2, 2, 2), thing),
                         lambda: pairing_worth(FLAT, (2, 2, 2), thing, rule=None)):
                self.assertEqual(refused_with(call), number)
        for rule in NO_RULES:
            self.assertRaises(BadRule, pairing_worth, FLAT, (2, 2, 2), LEVEL, rule=rule)
            self.assertRaises(BadRule, worth_by_pairings, FLAT, (2, 2, 2), rule=rule)

    def test_is_pairing_of_anything_is_false(self):
        for thing in ODD_THINGS:
            self.assertIs(is_pairing(FLAT, (2, 2, 2), thing), False)
            self.assertIs(is_pairing(FLAT, (2, 2, 0), thing), thing == () and type(thing) is tuple)


if __name__ == "__main__":
    unittest.main()
