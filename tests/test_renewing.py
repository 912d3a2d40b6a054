"""hollowrise.renewing: a HOLLOW RAISED, and which PAIRINGS ahead and behind BELONG together."""

import copy
import itertools
import random
import unittest

from hollowrise.errors import (
    BadField, BadPairing, BadPaper, BadRule, BadSpot, BadTarget, NoHollow, Nought, TooGreat)
from hollowrise.fields import is_field
from hollowrise.pairings import pairing_worth, pairings
from hollowrise.renewing import (
    at_hollow, at_raised, check_groups, come_from, gone_over, groups, rest, taken)
from tests.plain import ONE, RULES, can_go, heights_done, is_inner, outcome, places_of, deed_done
from tests.plain_webs import (
    closed_by_hand, field_on, low_heights, low_steep, open_by_hand, pairings_by_hand, small_worths, some_targets,
    sum_by_hand, targets_of, way_by_hand, web_by_hand, worth_of_pairing)
from tests.samples import ODD_THINGS, flat_field, near_places, rows_by, with_thing, worths_for
from tests.test_deeds import NO_RULES
from tests.test_fields import NO_FIELDS, no_spots
from tests.test_targets import no_targets

FLAT = flat_field(7, 7)
ONES = (FLAT[0], rows_by(7, 7, lambda x, y: ONE))


def behind_of(heights, spot):
    return heights_done(heights, ("up",) + spot)


def at_by_hand(heights, target, spot):
    """By the words of point 41."""
    near = near_places(*spot)
    found = []
    for tie in web_by_hand(heights, target):
        side = spot in tie and way_by_hand(*tie) == 1
        leg = way_by_hand(*tie) == 2 and tie[0] in near and tie[1] in near
        if side or leg:
            found.append(tie)
    return tuple(sorted(found))


def rest_by_hand(heights, target, spot, pairing):
    at = at_by_hand(heights, target, spot)
    return tuple(tie for tie in pairing if tie not in at)


def inner_knots(heights, target, spot):
    """A dict from each CORNER of a SPOT to the KNOT there in which its SIDES end, as far as it is there."""
    web = web_by_hand(heights, target)
    return {knot[:2]: knot for tie in web if spot in tie and way_by_hand(*tie) == 1 for knot in web[tie]}


def taken_by_hand(heights, target, spot, pairing):
    web = web_by_hand(heights, target)
    inner = inner_knots(heights, target, spot)
    own = [tie for tie in pairing if spot in tie and way_by_hand(*tie) == 1]
    return tuple(sorted(corner for corner in inner if any(inner[corner] in web[tie] for tie in own)))


def groups_by_hand(heights, target, spot):
    told = {}
    for number, rows in ((0, heights), (1, behind_of(heights, spot))):
        for pairing in pairings_by_hand(rows, target):
            told.setdefault(rest_by_hand(rows, target, spot, pairing), ([], []))[number].append(pairing)
    return sorted((tuple(ahead), tuple(behind)) for ahead, behind in told.values())


def some_hollows():
    """(HEIGHTS, TARGET, CLOSED HOLLOW) of all sorts."""
    return [(heights, target, spot) for heights, target in some_targets() for spot in closed_by_hand(heights, target)
            if can_go(heights, *spot, 1)]


SOME = some_hollows()
HAND = {key: groups_by_hand(*key) for key in SOME}


def corners_round(spot):
    x, y = spot
    return {(x - 1, y - 1), (x - 1, y), (x, y - 1), (x, y)}


class WhatIsAt(unittest.TestCase):
    def test_samples_are_of_all_sorts(self):
        self.assertGreater(len(SOME), 100)
        where = [way_by_hand(spot, target[:2]) for _, target, spot in SOME]
        self.assertLessEqual({0, 1, 2, 3}, set(where))
        sunk = [target[2] - heights[spot[1]][spot[0]] - way_by_hand(spot, target[:2]) for heights, target, spot in SOME]
        self.assertLessEqual({2, 4}, set(sunk))

    def test_by_hand(self):
        sides = (((2, 3), (3, 3)), ((3, 2), (3, 3)), ((3, 3), (3, 4)), ((3, 3), (4, 3)))
        self.assertEqual(at_hollow(FLAT, (3, 3, 2), (3, 3)), sides)
        # Behind it the TARGET stands on the FIELD.
        self.assertEqual(at_raised(field=FLAT, target=(3, 3, 2), spot=(3, 3)), ())
        # Behind it all that are across stand two beneath: a LEG at each CORNER.
        legs = (((2, 3), (3, 2)), ((2, 3), (3, 4)), ((3, 2), (4, 3)), ((3, 4), (4, 3)))
        self.assertEqual(at_hollow(field=FLAT, target=(3, 3, 4), spot=(3, 3)), sides)
        self.assertEqual(at_raised(FLAT, (3, 3, 4), (3, 3)), tuple(sorted(sides + legs)))

    def test_of_many(self):
        seen = set()
        for heights, target, spot in SOME:
            field = field_on(heights)
            ahead = at_hollow(field, target, spot)
            behind = at_raised(field, target, spot)
            self.assertEqual(ahead, at_by_hand(heights, target, spot))
            self.assertEqual(behind, at_by_hand(behind_of(heights, spot), target, spot))
            seen.add((len(ahead), len(behind)))
        self.assertGreater(len(seen), 8)
        self.assertIn(0, {many for _, many in seen})

    def test_all_else_of_the_web_stays(self):
        for heights, target, spot in SOME:
            ahead, behind = web_by_hand(heights, target), web_by_hand(behind_of(heights, spot), target)
            field = field_on(heights)
            self.assertEqual(set(ahead) - set(at_hollow(field, target, spot)),
                             set(behind) - set(at_raised(field, target, spot)))

    def test_where_it_is_open_behind_its_own_knots_away_from_the_target_go(self):
        found = set()
        for heights, target, spot in SOME:
            behind = behind_of(heights, spot)
            if spot in open_by_hand(behind, target):
                gone = set(inner_knots(heights, target, spot)) - set(inner_knots(behind, target, spot))
                line = (spot[0] == target[0]) + (spot[1] == target[1])
                self.assertEqual(len(gone), {2: 4, 1: 2, 0: 1}[line])
                found.add(line)
                for number in HAND[heights, target, spot]:
                    for pairing in number[0]:
                        self.assertLessEqual(gone, set(taken_by_hand(heights, target, spot, pairing)))
        self.assertEqual(found, {0, 1, 2})


class RestAndTaken(unittest.TestCase):
    def test_by_hand(self):
        level, upright = pairings(FLAT, (3, 3, 2))
        for pairing in (level, upright):
            self.assertEqual(rest(FLAT, (3, 3, 2), (3, 3), pairing), ())
            self.assertEqual(taken(FLAT, (3, 3, 2), (3, 3), pairing), ((2, 2), (2, 3), (3, 2), (3, 3)))
        self.assertEqual(rest(field=FLAT, target=(3, 3, 2), spot=(3, 3), pairing=(), raised=True), ())
        self.assertEqual(taken(field=FLAT, target=(3, 3, 2), spot=(3, 3), pairing=(), raised=True), ())
        self.assertEqual(taken(FLAT, (3, 3, 2), (3, 3), level, raised=False),
                         taken(FLAT, (3, 3, 2), (3, 3), pairing=level))

    def test_of_many(self):
        for key, every in HAND.items():
            heights, target, spot = key
            field, behind = field_on(heights), behind_of(heights, spot)
            for ahead, back in every[::3]:
                for pairing in ahead:
                    self.assertEqual(rest(field, target, spot, pairing), rest_by_hand(heights, target, spot, pairing))
                    self.assertEqual(taken(field, target, spot, pairing, raised=False),
                                     taken_by_hand(heights, target, spot, pairing))
                for pairing in back:
                    self.assertEqual(rest(field, target, spot, pairing, raised=True),
                                     rest_by_hand(behind, target, spot, pairing))
                    self.assertEqual(taken(field, target, spot, pairing, raised=True),
                                     taken_by_hand(behind, target, spot, pairing))

    def test_bad_pairing_by_its_own_web(self):
        changed = 0
        for key, every in list(HAND.items())[::4]:
            heights, target, spot = key
            field = field_on(heights)
            ahead, back = every[0]
            for function in (rest, taken):
                for pairing, raised in ((back[0], False), (ahead[0], True)):
                    good = pairings_by_hand(behind_of(heights, spot) if raised else heights, target)
                    if pairing not in good:
                        changed += 1
                        self.assertRaises(BadPairing, function, field, target, spot, pairing, raised=raised)
        self.assertGreater(changed, 20)

    def test_the_star(self):
        for function in (rest, taken):
            with self.assertRaises(TypeError):
                function(FLAT, (3, 3, 2), (3, 3), (), True)


class Groups(unittest.TestCase):
    def test_by_hand(self):
        level, upright = pairings(FLAT, (3, 3, 2))
        self.assertEqual(groups(FLAT, (3, 3, 2), (3, 3)), [((level, upright), ((),))])
        self.assertEqual(gone_over(FLAT, (3, 3, 2), (3, 3), level), ((),))
        self.assertEqual(come_from(field=FLAT, target=(3, 3, 2), spot=(3, 3), pairing=()), (level, upright))

    def test_of_many(self):
        for (heights, target, spot), every in HAND.items():
            field = field_on(heights)
            self.assertEqual(groups(field=field, target=target, spot=spot), every)
            for ahead, back in every[::2]:
                for pairing in ahead:
                    self.assertEqual(gone_over(field=field, target=target, spot=spot, pairing=pairing), back)
                for pairing in back:
                    self.assertEqual(come_from(field, target, spot, pairing), ahead)

    def test_each_is_one_of_those_of_point_42(self):
        seen = set()
        for (heights, target, spot), every in HAND.items():
            behind = behind_of(heights, spot)
            x, y = spot
            for ahead, back in every:
                one = {taken_by_hand(heights, target, spot, pairing) for pairing in ahead}
                other = {taken_by_hand(behind, target, spot, pairing) for pairing in back}
                self.assertEqual((len(one), len(other)), (1, 1))
                one, other = set(one.pop()), set(other.pop())
                # A CORNER is TAKEN behind just where it wasn't ahead, as far as its KNOT is there.
                self.assertEqual(other, set(inner_knots(behind, target, spot)) - one)
                seen.add((len(one), len(ahead), len(back)))
                self.assertIn((len(one), len(ahead), len(back)), {(4, 2, 1), (0, 1, 2), (2, 1, 1)})
                if len(one) == 2:
                    (a, b), (c, d) = sorted(one)
                    self.assertTrue(a == c or b == d)
                for two in (ahead, back):
                    if len(two) == 2:
                        level, upright = two
                        sides = {((x - 1, y), (x, y)), ((x, y), (x + 1, y))}
                        self.assertLessEqual(sides, set(level))
                        self.assertLessEqual({((x, y - 1), (x, y)), ((x, y), (x, y + 1))}, set(upright))
        self.assertEqual(seen, {(4, 2, 1), (0, 1, 2), (2, 1, 1)})

    def test_all_fall_into_groups(self):
        for (heights, target, spot), every in HAND.items():
            self.assertEqual(sorted(pairing for ahead, _ in every for pairing in ahead),
                             pairings_by_hand(heights, target))
            self.assertEqual(sorted(pairing for _, back in every for pairing in back),
                             pairings_by_hand(behind_of(heights, spot), target))

    def test_rising_and_a_new_list_each_time(self):
        told = groups(FLAT, (3, 4, 3), (3, 3))
        self.assertEqual(told, sorted(told))
        kept = list(told)
        told.clear()
        self.assertEqual(groups(FLAT, (3, 4, 3), (3, 3)), kept)

    def test_one_sum_each(self):
        noughts = 0
        for number, ((heights, target, spot), every) in enumerate(HAND.items()):
            rule = RULES[number % len(RULES)]
            for field in (field_on(heights), (heights, small_worths(heights, number))):
                told = outcome(deed_done, field, ("up",) + spot, rule)
                if told[0] != "told":
                    noughts += 1
                    continue
                for ahead, back in every[::4]:
                    self.assertEqual(sum(worth_of_pairing(field, target, pairing, rule) for pairing in ahead),
                                     sum(worth_of_pairing(told[1], target, pairing, rule) for pairing in back))
                    self.assertIs(is_field(told[1]), True)
                self.assertEqual(sum_by_hand(field, target, rule), sum_by_hand(told[1], target, rule))
        self.assertGreater(noughts, 0)


class CheckGroups(unittest.TestCase):
    def check(self, field, target, spot, thing, place):
        kept = list(thing) if type(thing) in (list, tuple) else None
        with self.assertRaises(BadPaper) as caught:
            check_groups(field, target, spot, thing)
        self.assertEqual(caught.exception.place, place)
        if kept is not None:
            self.assertEqual(list(thing), kept)

    def test_handed_in_is_afterwards_what_it_was(self):
        field, target, spot, every = self.long_one()
        paper = [[list(ahead), list(back)] for ahead, back in every]
        kept = copy.deepcopy(paper)
        self.check(field, target, spot, paper, 0)
        self.assertEqual(paper, kept)
        good = list(every)
        self.assertIsNone(check_groups(field, target, spot, good))
        self.assertEqual(good, every)

    def long_one(self):
        """(FIELD, TARGET, SPOT, GROUPS) with many GROUPS of all three kinds."""
        heights, target, spot = max(HAND, key=lambda key: len({(len(a), len(b)) for a, b in HAND[key]}) * 1000
                                    + len(HAND[key]))
        return field_on(heights), target, spot, HAND[heights, target, spot]

    def test_all_groups(self):
        for number, ((heights, target, spot), every) in enumerate(HAND.items()):
            for field in (field_on(heights), (heights, rows_by(len(heights[0]), len(heights), lambda x, y: ONE))):
                for rule in (RULES[number % len(RULES)], (1, 1)):
                    told = outcome(check_groups, field, target, spot, every, rule=rule)
                    by_hand = outcome(deed_done, field, ("up",) + spot, rule)
                    self.assertEqual(told, ("told", None) if by_hand[0] == "told" else by_hand)
        field, target, spot, every = self.long_one()
        self.assertGreater(len(every), 10)
        self.assertIsNone(check_groups(field=field, target=target, spot=spot, thing=tuple(every), rule=(2, 3)))

    def test_none_of_no_list_or_tuple(self):
        field, target, spot, every = self.long_one()
        for thing in ODD_THINGS + [dict(enumerate(every)), set(every), iter(every), "groups"]:
            if type(thing) not in (list, tuple):
                self.check(field, target, spot, thing, None)

    def test_what_is_no_group_at_the_first_a_middle_and_the_last_place(self):
        field, target, spot, every = self.long_one()
        last = len(every) - 1
        for at in (0, last // 2, last):
            ahead, back = every[at]
            other_ahead, other_back = every[at - 1]
            wrong = [thing for thing in ODD_THINGS] + [
                [ahead, back], (list(ahead), back), (ahead, list(back)), (ahead,), (ahead, back, ()), (back, ahead),
                ((), back), (ahead, ()), ((), ()), (ahead, other_back), (other_ahead, back), (ahead + ahead, back),
                (ahead, back + back), (ahead + other_ahead, back), (ahead[0], back[0]), (ahead, back[0]),
                (ahead[0], back), (tuple(list(pairing) for pairing in ahead), back), ahead, back,
                (ahead, (back[0][:-1],)), (ahead, (back[0] + back[0][-1:],)), ((ahead[0][::-1],), back), None,
                (ahead, tuple(tuple((list(a), b) for a, b in pairing) for pairing in back)),
                (ahead, tuple(tuple((tuple(map(float, a)), b) for a, b in pairing) for pairing in back)),
                (tuple(tuple(tuple(tuple(bool(n) if n < 2 else n for n in spot) for spot in tie) for tie in pairing)
                       for pairing in ahead), back)]
            for thing in wrong:
                if thing == every[at] and not any(flag in str(thing) for flag in ("True", "False", ".0")):
                    continue
                paper = every[:at] + [thing] + every[at + 1:]
                self.check(field, target, spot, paper, at)
                self.check(field, target, spot, tuple(paper), at)

    def test_parts_of_groups(self):
        for (heights, target, spot), every in list(HAND.items())[::3]:
            field = field_on(heights)
            for at, (ahead, back) in list(enumerate(every))[::1 + len(every) // 6]:
                for thing in [(ahead[:1], back), (ahead[1:], back), (ahead, back[:1]), (ahead, back[1:]),
                              (ahead[::-1], back), (ahead, back[::-1])]:
                    if thing != (ahead, back):
                        self.check(field, target, spot, every[:at] + [thing] + every[at + 1:], at)

    def test_not_above_the_one_ahead(self):
        field, target, spot, every = self.long_one()
        last = len(every) - 1
        for at in (1, last // 2, last):
            self.check(field, target, spot, every[:at] + every[at - 1:at] + every[at:], at)
            self.check(field, target, spot, every[:at - 1] + [every[at], every[at - 1]] + every[at + 1:], at)
        self.check(field, target, spot, every + every[:1], len(every))
        self.check(field, target, spot, every[::-1], 1)

    def test_how_many_there_are_where_a_group_lacks(self):
        field, target, spot, every = self.long_one()
        self.check(field, target, spot, [], 0)
        self.check(field, target, spot, (), 0)
        for at in (0, len(every) // 2, len(every) - 1):
            self.check(field, target, spot, every[:at] + every[at + 1:], len(every) - 1)
            self.check(field, target, spot, every[:at], at)

    def test_of_those_that_are_wrong_the_first(self):
        field, target, spot, every = self.long_one()
        chance = random.Random("paper")
        for _ in range(30):
            paper = list(every)
            places = sorted(chance.sample(range(len(paper)), 3))
            for place in places:
                paper[place] = (every[place][1], every[place][0], 1)
            self.check(field, target, spot, paper, places[0])


class Refused(unittest.TestCase):
    def calls(self, field):
        """All that asks for a CLOSED HOLLOW, with what else it wants, wrongly."""
        return [lambda target, spot: at_hollow(field, target, spot), lambda target, spot: at_raised(field, target, spot),
                lambda target, spot: rest(field, target, spot, None), lambda target, spot: taken(field, target, spot, 1),
                lambda target, spot: rest(field, target, spot, None, raised=True),
                lambda target, spot: taken(field, target, spot, 1, raised=True),
                lambda target, spot: gone_over(field, target, spot, []),
                lambda target, spot: come_from(field, target, spot, []),
                lambda target, spot: groups(field, target, spot),
                lambda target, spot: check_groups(field, target, spot, None, rule=None)]

    def test_in_order(self):
        for call in self.calls(FLAT):
            for thing in no_targets((3, 3, 2)):
                if thing != (3, 3, 4):
                    self.assertRaises(BadTarget, call, thing, None)
                    self.assertRaises(BadTarget, call, thing, (3, 3))
            for thing in no_spots(7, 7):
                self.assertRaises(BadSpot, call, (3, 3, 2), thing)
            for x, y in places_of(FLAT[0]):
                if not can_go(FLAT[0], x, y, 1):
                    with self.assertRaises(NoHollow) as caught:
                        call((3, 3, 2), (x, y))
                    self.assertEqual(caught.exception.spot, (x, y))
                elif (x, y) != (3, 3):
                    self.assertRaises(BadTarget, call, (3, 3, 2), (x, y))
            # Of a TARGET that stands on the FIELD nothing is CLOSED.
            self.assertRaises(BadTarget, call, (3, 3, 0), (3, 3))
            self.assertRaises(NoHollow, call, (3, 3, 0), (3, 2))
        for place, thing in NO_FIELDS:
            for call in self.calls(thing):
                with self.assertRaises(BadField) as caught:
                    call(None, None)
                self.assertEqual(caught.exception.place, place)

    def test_bad_pairing_with_its_number(self):
        level, upright = pairings(FLAT, (3, 3, 2))
        for thing, number in ((None, None), ([], None), (level[:1], 1), (level[::-1], 1), ((1, 2), 0), (level + level, 2),
                              ((), 0)):
            for call in (lambda: rest(FLAT, (3, 3, 2), (3, 3), thing), lambda: taken(FLAT, (3, 3, 2), (3, 3), thing),
                         lambda: gone_over(FLAT, (3, 3, 2), (3, 3), thing)):
                with self.assertRaises(BadPairing) as caught:
                    call()
                self.assertEqual(caught.exception.number, number)
        for thing, number in ((None, None), (level, 0), (upright, 0), ((1,), 0)):
            for call in (lambda: rest(FLAT, (3, 3, 2), (3, 3), thing, raised=True),
                         lambda: taken(FLAT, (3, 3, 2), (3, 3), thing, raised=True),
                         lambda: come_from(FLAT, (3, 3, 2), (3, 3), thing)):
                with self.assertRaises(BadPairing) as caught:
                    call()
                self.assertEqual(caught.exception.number, number)

    def test_bad_rule_then_too_great_then_nought_then_bad_paper(self):
        for rule in NO_RULES:
            self.assertRaises(BadRule, check_groups, ONES, (3, 3, 2), (3, 3), None, rule=rule)
        with self.assertRaises(Nought) as caught:
            check_groups(ONES, (3, 3, 2), (3, 3), None, rule=(1, -1))
        self.assertEqual(caught.exception.spot, (3, 3))
        great = (flat_field(11, 11)[0], rows_by(11, 11, lambda x, y: ONE))
        for call in (lambda: groups(great, (5, 5, 6), (5, 5)), lambda: groups(great, (5, 5, 6), (3, 5)),
                     lambda: check_groups(great, (5, 5, 6), (5, 5), None, rule=(1, -1))):
            with self.assertRaises(TooGreat) as caught:
                call()
            self.assertEqual(caught.exception.most, 4096)
        self.assertRaises(BadRule, check_groups, great, (5, 5, 6), (5, 5), None, rule=(0, 1))
        self.assertRaises(BadPaper, check_groups, ONES, (3, 3, 2), (3, 3), None)
        with self.assertRaises(TypeError):
            check_groups(ONES, (3, 3, 2), (3, 3), [], (1, 1))

    def test_too_great_where_there_are_more_behind_alone_or_ahead_alone(self):
        seen = set()
        for heights in (low_steep(11, 11, 0), low_heights(11, 11, "behind", 20), low_heights(10, 11, "ahead", 20)):
            field = field_on(heights)
            for target in targets_of(heights):
                x, y, n = target
                if n - heights[y][x] not in (4, 6) or (x + 2 * y) % 3:
                    continue
                for spot in closed_by_hand(heights, target):
                    if is_inner(heights, *spot) and can_go(heights, *spot, 1):
                        ahead, back = (outcome(pairings, (rows, field[1]), target)[0]
                                       for rows in (heights, behind_of(heights, spot)))
                        if ahead != back and (ahead, back) not in seen:
                            seen.add((ahead, back))
                            self.assertEqual(outcome(groups, field, target, spot), ("TooGreat", {"most": 4096}))
        self.assertGreaterEqual(len(seen), 1)


class What(unittest.TestCase):
    def test_powers_ahead_and_behind(self):
        """By point 43, SPOT by SPOT."""
        for (heights, target, spot), every in list(HAND.items())[::3]:
            field = (heights, worths_for(len(heights[0]), len(heights)))
            behind = (behind_of(heights, spot), field[1])
            for ahead, back in every[::5]:
                if len(ahead) == len(back) == 1:
                    near = near_places(*spot)
                    for other in near:
                        one = (heights, with_thing(field[1], *other, (10 ** 9 + 7, 1)))
                        two = (behind[0], one[1])
                        self.assertEqual(pairing_worth(one, target, ahead[0])[0] % (10 ** 9 + 7) == 0,
                                         pairing_worth(two, target, back[0])[0] % (10 ** 9 + 7) == 0)

    def test_all_corners_are_round_the_spot(self):
        for (heights, target, spot), every in itertools.islice(HAND.items(), 0, None, 6):
            for pairing in every[0][0]:
                self.assertLessEqual(set(taken(field_on(heights), target, spot, pairing)), corners_round(spot))


if __name__ == "__main__":
    unittest.main()
