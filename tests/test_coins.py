"""hollowrise.coins: PAIRINGS DRAWN by COINS, SHARES and BOXES."""

import functools
import itertools
import random
import unittest
from fractions import Fraction
from unittest import mock

from hollowrise import coins as module
from hollowrise.coins import boxes, drawn, share, story
from hollowrise.descents import bits_for, stages_of
from hollowrise.errors import BadCoin, BadField, BadPairing, BadRule, BadTarget, TooFew, TooGreat
from hollowrise.fields import with_worth
from hollowrise.pairings import how_many, pairing_worth, pairings
from hollowrise.reach import worth_at
from tests.plain import ONE, deed_done, first_by_hand, heights_done, outcome, places_of, row_done
from tests.plain_webs import (
    field_on, low_heights, pair, pairings_by_hand, some_targets, target_heights, top_at)
from tests.samples import ODD_THINGS, flat_field, rows_by, worths_for
from tests.test_deeds import NO_RULES
from tests.test_fields import NO_FIELDS
from tests.test_renewing import rest_by_hand
from tests.test_targets import no_targets

GOOD = [(1, 1), (2, 3), (9, 1), (1, 9)]
NOT_GOOD = [(1, -1), (-1, 1), (-3, -3), (9, -9)]
FLAT = (flat_field(5, 5)[0], rows_by(5, 5, lambda x, y: ONE))
LEVEL = (((1, 2), (2, 2)), ((2, 2), (3, 2)))
UPRIGHT = (((2, 1), (2, 2)), ((2, 2), (2, 3)))
NO_COINS = [thing for thing in ODD_THINGS if thing not in ((1, 2),)] + [
    (1, 1), (2, 1), (-1, 2), (3, 2), (2, 4), (0, 2), (0, -1), (True, 2), (1, True), (False, 1), [0, 1], (0, 1, 1), (0,),
    (1, 0), (0, 0), 0, "1/2", (1.0, 2), (10 ** 999, 10 ** 999)]


def rising_worths(heights, seed):
    """WORTHS above 0, broken and whole, of each fourth number long ones."""
    chance = random.Random(f"rising {seed}")
    above, below = (10 ** 40, 10 ** 25) if seed % 4 == 3 else (9, 5)
    return rows_by(len(heights[0]), len(heights),
                   lambda x, y: pair(Fraction(chance.randrange(1, above), chance.randrange(1, below))))


def some_fields():
    """(FIELD, TARGET, RULE), WORTHS above 0, GOOD RULES."""
    return [((heights, rising_worths(heights, number)), target, GOOD[number % 3])
            for number, (heights, target) in enumerate(some_targets())]


SOME = some_fields()
FEW = [(field, target, rule) for field, target, rule in SOME if how_many(field, target) <= 40]


@functools.lru_cache(maxsize=None)
def by_rest(heights, target, spot):
    """From each REST to the PAIRINGS, rising, that have it at a SPOT."""
    told = {}
    for pairing in pairings_by_hand(heights, target):
        told.setdefault(rest_by_hand(heights, target, spot, pairing), []).append(pairing)
    return told


def story_by_hand(field, target, coins, rule):
    """(The story, how many COINS were asked for), by the words of point 51."""
    coins = list(coins)
    first = field[0]
    field = row_done(field, first_by_hand(first, target_heights(first, target)), rule)
    pairing, told, asked = (), [], 0
    while field[0] != first:
        higher = [(x, y) for x, y in places_of(first) if field[0][y][x] > first[y][x]]
        x, y = min(higher, key=lambda spot: (-field[0][spot[1]][spot[0]], spot))
        ahead = deed_done(field, ("down", x, y), rule)
        found = by_rest(ahead[0], target, (x, y))[rest_by_hand(field[0], target, (x, y), pairing)]
        if len(found) == 2:
            west, east, south, north = (Fraction(*field[1][b][a]) for a, b in
                                        ((x - 1, y), (x + 1, y), (x, y - 1), (x, y + 1)))
            part = rule[0] * west * east / (rule[0] * west * east + rule[1] * south * north)
            asked += 1
            upright = Fraction(*coins.pop(0)) < part
            found = [one for one in found if (((x, y), (x, y + 1)) in one) == upright]
        pairing, = found
        told.append(((x, y), pairing))
        field = ahead
    return told, asked


def coins_by(seed, many):
    chance = random.Random(f"coins {seed}")
    return tuple(pair(Fraction(chance.randrange(0, 60), 60)) for _ in range(many))


def size_of(box):
    size = Fraction(1)
    for low, high in box:
        size *= Fraction(*high) - Fraction(*low)
    return size


def how_many_boxes(field, target):
    """How many BOXES of all PAIRINGS there are: a number for each way by which one is come to."""
    bits = bits_for(field[0], target)
    found = {0: 1}
    for stage, _ in stages_of(field[0], target, bits):
        behind = {}
        for number, many in found.items():
            for other in stage.ways(number):
                behind[other] = behind.get(other, 0) + many
        found = behind
    return sum(found.values())


def boxed(wide, high, number, target):
    heights = low_heights(wide, high, f"boxes {number}", 20)
    return ((heights, rows_by(wide, high, lambda x, y: ONE)), target)


# Of these there are more and more BOXES.
BOXED = [boxed(7, 7, 7, (2, 2, -10)), boxed(7, 7, 10, (2, 4, 10)),
         boxed(7, 8, 3, (3, 5, 2)), boxed(9, 8, 11, (6, 4, -14)), boxed(9, 7, 32, (4, 3, 17)), boxed(8, 8, 25, (2, 4, 14)),
         boxed(8, 8, 7, (4, 2, 4))]


def meet(one, other):
    return all(Fraction(*a) < Fraction(*d) and Fraction(*c) < Fraction(*b) for (a, b), (c, d) in zip(one, other))


class Shares(unittest.TestCase):
    def test_by_hand(self):
        field = with_worth(with_worth(FLAT, (1, 2), (3, 1)), (2, 3), (2, 1))
        # By the SIDES to west and east north times south, by B; by the others west times east, by A.
        self.assertEqual(share(field, (2, 2, 2), LEVEL), (2, 5))
        self.assertEqual(share(field, (2, 2, 2), UPRIGHT), (3, 5))
        self.assertEqual(share(field=field, target=(2, 2, 2), pairing=UPRIGHT, rule=(4, 1)), (6, 7))
        self.assertEqual(share(field, (2, 2, 0), ()), (1, 1))

    def test_shares_of_one(self):
        for field, target, rule in SOME:
            total = Fraction(0)
            for pairing in pairings(field, target):
                told = share(field, target, pairing, rule=rule)
                worth = Fraction(*pairing_worth(field, target, pairing, rule=rule))
                self.assertEqual(told, pair(worth / Fraction(*worth_at(field, *target, rule=rule))))
                total += Fraction(*told)
            self.assertEqual(total, 1)

    def test_of_many_more_than_4096(self):
        field = (flat_field(11, 11)[0], rows_by(11, 11, lambda x, y: ONE))
        pairing, asked = drawn(field, (5, 5, 6), ((1, 3),) * 60)
        self.assertEqual(share(field, (5, 5, 6), pairing), (1, 32768))
        self.assertGreater(asked, 5)


class Drawn(unittest.TestCase):
    def test_by_hand(self):
        field = with_worth(with_worth(FLAT, (1, 2), (3, 1)), (2, 3), (2, 1))
        self.assertEqual(drawn(field, (2, 2, 2), ((0, 1),)), (UPRIGHT, 1))
        self.assertEqual(drawn(field, (2, 2, 2), ((59, 100),)), (UPRIGHT, 1))
        self.assertEqual(drawn(field, (2, 2, 2), ((3, 5),)), (LEVEL, 1))
        self.assertEqual(drawn(field=field, target=(2, 2, 2), coins=((99, 100),)), (LEVEL, 1))
        self.assertEqual(drawn(field, (2, 2, 2), ((5, 6),), rule=(4, 1)), (UPRIGHT, 1))
        self.assertEqual(drawn(field, (2, 2, 2), ((6, 7),), rule=(4, 1)), (LEVEL, 1))
        self.assertEqual(story(field, (2, 2, 2), ((1, 2),)), [((2, 2), UPRIGHT)])

    def test_a_target_that_stands_on_the_field(self):
        for x, y in places_of(FLAT[0]):
            target = (x, y, FLAT[0][y][x])
            self.assertEqual(drawn(FLAT, target, ()), ((), 0))
            self.assertEqual(drawn(FLAT, target, ((1, 2), (0, 1))), ((), 0))
            self.assertEqual(story(field=FLAT, target=target, coins=()), [])
            self.assertEqual(boxes(FLAT, target, ()), [()])
            self.assertEqual(share(FLAT, target, ()), (1, 1))

    def test_against_the_words(self):
        for number, (field, target, rule) in enumerate(SOME):
            for seed in range(4):
                coins = coins_by(f"{number} {seed}", 60)
                told, asked = story_by_hand(field, target, coins, rule)
                self.assertEqual(story(field, target, coins, rule=rule), told)
                self.assertEqual(drawn(field, target, coins, rule=rule), (told[-1][1] if told else (), asked))

    def test_the_order_in_which_they_are_lowered(self):
        field = (low_heights(9, 9, "order", 20), None)
        field = (field[0], rising_worths(field[0], 1))
        target = (4, 4, top_at(field[0], 4, 4))
        heights = target_heights(field[0], target)
        for x, y in [spot for spot, _ in story(field, target, ((1, 2),) * 200)]:
            higher = [(a, b) for a, b in places_of(heights) if heights[b][a] > field[0][b][a]]
            self.assertEqual((x, y), min(higher, key=lambda spot: (-heights[spot[1]][spot[0]], spot)))
            heights = heights_done(heights, ("down", x, y))
        self.assertEqual(heights, field[0])

    def test_how_many_coins_are_asked_for_and_those_that_are_left(self):
        many = set()
        for number, (field, target, rule) in enumerate(SOME):
            coins = coins_by(number, 50)
            pairing, asked = drawn(field, target, coins, rule=rule)
            many.add(asked)
            for left in (asked, asked + 1, 50):
                self.assertEqual(drawn(field, target, coins[:left], rule=rule), (pairing, asked))
                self.assertEqual(story(field, target, coins[:left], rule=rule), story(field, target, coins, rule=rule))
            other = coins[:asked] + ((0, 1),) * 5
            self.assertEqual(drawn(field, target, other, rule=rule), (pairing, asked))
        self.assertGreater(len(many), 4)

    def test_too_few_with_its_number(self):
        for number, (field, target, rule) in enumerate(SOME):
            coins = coins_by(number, 50)
            _, asked = drawn(field, target, coins, rule=rule)
            for many in range(asked):
                for call in (drawn, story):
                    self.assertEqual(outcome(call, field, target, coins[:many], rule=rule),
                                     ("TooFew", {"number": many + 1}))

    def test_of_the_greatest_target(self):
        low = low_heights(11, 11, "greatest", 20)
        field = (low, rows_by(11, 11, lambda x, y: ONE))
        target = (5, 5, top_at(low, 5, 5))
        pairing, asked = drawn(field, target, coins_by("greatest", 200))
        self.assertEqual(share(field, target, pairing), (1, how_many(field, target)))
        self.assertLess(asked, 200)


class Boxes(unittest.TestCase):
    def test_by_hand(self):
        field = with_worth(with_worth(FLAT, (1, 2), (3, 1)), (2, 3), (2, 1))
        self.assertEqual(boxes(field, (2, 2, 2), UPRIGHT), [(((0, 1), (3, 5)),)])
        self.assertEqual(boxes(field=field, target=(2, 2, 2), pairing=LEVEL, rule=(4, 1)), [(((6, 7), (1, 1)),)])

    def test_their_sizes_are_the_share_and_none_meet(self):
        several = 0
        for field, target, rule in FEW:
            every = []
            for pairing in pairings(field, target):
                told = boxes(field, target, pairing, rule=rule)
                self.assertEqual(told, sorted(told))
                self.assertEqual(pair(sum(size_of(box) for box in told)), share(field, target, pairing, rule=rule))
                several += len(told) > 1
                every += told
            self.assertEqual(sum(size_of(box) for box in every), 1)
            for one, other in itertools.combinations(every, 2):
                self.assertFalse(meet(one, other))
        self.assertGreater(several, 3)

    def test_each_corner_is_drawn_to_its_pairing(self):
        for field, target, rule in FEW[::2]:
            for pairing in pairings(field, target):
                for box in boxes(field, target, pairing, rule=rule):
                    for ends in itertools.islice(itertools.product((0, 1), repeat=len(box)), 0, None, 1 + len(box) // 4):
                        coins = tuple(pair(Fraction(*part[0]) if end == 0 else Fraction(*part[1]) - Fraction(1, 10 ** 9))
                                      for part, end in zip(box, ends))
                        self.assertEqual(drawn(field, target, coins + ((1, 2),), rule=rule), (pairing, len(box)))

    def test_a_new_list_each_time(self):
        told = boxes(FLAT, (2, 2, 2), LEVEL)
        told.clear()
        self.assertEqual(boxes(FLAT, (2, 2, 2), LEVEL), [(((1, 2), (1, 1)),)])
        told = story(FLAT, (2, 2, 2), ((0, 1),))
        told.clear()
        self.assertEqual(story(FLAT, (2, 2, 2), ((0, 1),)), [((2, 2), UPRIGHT)])

    def test_several_of_unlike_many_coins(self):
        unlike = 0
        for field, target in (BOXED[0], BOXED[1]):
            every = []
            for pairing in pairings(field, target):
                told = boxes(field, target, pairing)
                self.assertEqual(pair(sum(size_of(box) for box in told)), share(field, target, pairing))
                unlike += len({len(box) for box in told}) > 1
                every += told
            self.assertEqual(len(every), how_many_boxes(field, target))
            for one, other in itertools.combinations(every, 2):
                self.assertFalse(meet(one, other))
        self.assertEqual(unlike, 3)

    def test_too_great_just_where_there_are_more_than_4096_together(self):
        seen = []
        for field, target in BOXED:
            many = how_many_boxes(field, target)
            told = outcome(boxes, field, target, drawn(field, target, ((1, 3),) * 60)[0])
            self.assertEqual(told[0], "TooGreat" if many > 4096 else "told")
            if many > 4096:
                self.assertEqual(told[1], {"most": 4096})
            seen.append(many)
        self.assertEqual(seen, [31, 41, 3452, 4094, 4171, 4194, 4355])

    def test_too_great_at_its_very_bound(self):
        field, target, rule = max(FEW, key=lambda some: how_many(*some[:2]))
        every = pairings(field, target)
        many = sum(len(boxes(field, target, pairing, rule=rule)) for pairing in every)
        self.assertEqual(module.MOST_BOXES, 4096)
        with mock.patch.object(module, "MOST_BOXES", many):
            self.assertEqual(sum(len(boxes(field, target, pairing, rule=rule)) for pairing in every), many)
        with mock.patch.object(module, "MOST_BOXES", many - 1):
            self.assertRaises(TooGreat, boxes, field, target, every[0], rule=rule)

    def test_too_great_behind_all_else(self):
        field = (flat_field(11, 11)[0], rows_by(11, 11, lambda x, y: ONE))
        target = (5, 5, 6)
        pairing, _ = drawn(field, target, ((1, 3),) * 60)
        with self.assertRaises(TooGreat) as caught:
            boxes(field, target, pairing)
        self.assertEqual(caught.exception.most, 4096)
        self.assertRaises(BadRule, boxes, field, target, pairing, rule=(1, -1))
        self.assertRaises(BadField, boxes, with_worth(field, (0, 0), (-1, 1)), target, pairing)
        self.assertRaises(BadPairing, boxes, field, target, pairing[:-1])


class Refused(unittest.TestCase):
    def calls(self, field):
        """All four, with what stands behind the TARGET, wrongly."""
        return [lambda target: share(field, target, None, rule=None), lambda target: drawn(field, target, None, rule=None),
                lambda target: story(field, target, None, rule=None), lambda target: boxes(field, target, None, rule=None)]

    def test_bad_field_then_bad_target(self):
        for place, thing in NO_FIELDS:
            for call in self.calls(thing):
                with self.assertRaises(BadField) as caught:
                    call(None)
                self.assertEqual(caught.exception.place, place)
        for call in self.calls(FLAT):
            for thing in no_targets((2, 2, 2)):
                if thing != (2, 2, 0):
                    self.assertRaises(BadTarget, call, thing)

    def test_bad_pairing_with_its_number(self):
        for thing, number in ((None, None), ([], None), ((), 0), (LEVEL[:1], 1), (LEVEL[::-1], 1), ((1, 2), 0)):
            for call in (share, boxes):
                for rule in ((1, 1), None, (1, -1)):
                    with self.assertRaises(BadPairing) as caught:
                        call(FLAT, (2, 2, 2), thing, rule=rule)
                    self.assertEqual(caught.exception.number, number)

    def test_bad_coin_with_its_number(self):
        for call in (drawn, story):
            for thing in ODD_THINGS + [[(0, 1)], {(0, 1): 1}, iter([(0, 1)])]:
                if type(thing) is not tuple:
                    with self.assertRaises(BadCoin) as caught:
                        call(FLAT, (2, 2, 2), thing, rule=None)
                    self.assertIsNone(caught.exception.number)
            for thing in NO_COINS:
                for target in ((2, 2, 2), (2, 2, 0)):
                    for ahead in ((), ((1, 2),), ((0, 1), (1, 2), (59, 60))):
                        with self.assertRaises(BadCoin) as caught:
                            call(FLAT, target, ahead + (thing,) + ((1, 2), None), rule=None)
                        self.assertEqual(caught.exception.number, len(ahead))

    def test_coins_that_are_good(self):
        for coin in ((0, 1), (1, 2), (10 ** 998, 10 ** 998 + 1), (1, 10 ** 998)):
            self.assertEqual(drawn(FLAT, (2, 2, 2), (coin,))[1], 1)

    def test_bad_rule_also_of_one_that_is_not_good_then_bad_field(self):
        low = with_worth(FLAT, (0, 0), (-1, 7))
        calls = [lambda field, rule: share(field, (2, 2, 2), LEVEL, rule=rule),
                 lambda field, rule: boxes(field, (2, 2, 2), LEVEL, rule=rule),
                 lambda field, rule: drawn(field, (2, 2, 2), (), rule=rule),
                 lambda field, rule: story(field, (2, 2, 2), (), rule=rule),
                 lambda field, rule: drawn(field, (2, 2, 0), (), rule=rule)]
        for call in calls:
            for rule in NO_RULES + NOT_GOOD:
                self.assertRaises(BadRule, call, FLAT, rule)
                self.assertRaises(BadRule, call, low, rule)
            for x, y in places_of(FLAT[0]):
                with self.assertRaises(BadField) as caught:
                    call(with_worth(FLAT, (x, y), (-1, 7)), (2, 3))
                self.assertEqual(caught.exception.place, "worths")
        for call in calls[2:4]:
            with self.assertRaises(TooFew) as caught:
                call(FLAT, (1, 1))
            self.assertEqual(caught.exception.number, 1)

    def test_the_rule_stands_behind_the_star(self):
        for call, thing in ((share, LEVEL), (boxes, LEVEL), (drawn, ((0, 1),)), (story, ((0, 1),))):
            self.assertEqual(call(FLAT, (2, 2, 2), thing), call(FLAT, (2, 2, 2), thing, rule=(1, 1)))
            with self.assertRaises(TypeError):
                call(FLAT, (2, 2, 2), thing, (1, 1))

    def test_handed_in_is_afterwards_what_it_was(self):
        thing = [[0, 1]]
        self.assertRaises(BadCoin, drawn, FLAT, (2, 2, 2), thing)
        self.assertRaises(BadCoin, drawn, FLAT, (2, 2, 2), (thing[0],))
        self.assertEqual(thing, [[0, 1]])
        field = field_on(FLAT[0])
        self.assertEqual(field[1], worths_for(5, 5))


if __name__ == "__main__":
    unittest.main()
