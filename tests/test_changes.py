"""Where a WORTH changes: MINDS, PARTS, FORMS, LADEN FIELDS."""

import itertools
import unittest
from fractions import Fraction

from hollowrise.changes import FORMS, changed, form_at, laden, minded, minding, parts, weighed
from hollowrise.errors import BadForm, Nought
from hollowrise.fields import is_field, with_worth, worth_of
from hollowrise.flats import flat
from hollowrise.heights import lowest
from hollowrise.pairings import pairings, worth_by_pairings
from hollowrise.reach import worth_at
from tests.plain import RULES, outcome, places_of
from tests.plain_webs import (
    closed_by_hand, counts_by_hand, field_on, low_heights, open_by_hand, pair, pairings_by_hand, powers_by_hand,
    small_worths, some_targets, sum_by_hand, targets_of, told_of_all, way_by_hand)
from tests.samples import ODD_THINGS, flat_field, random_field, random_heights, rows_by
from tests.test_deeds import NO_RULES
from tests.test_fields import NO_FIELDS, no_spots
from tests.test_targets import no_targets

FLAT = flat_field(5, 5)
MANY = (lowest(flat_field(11, 11)[0]), flat_field(11, 11)[1])
FAR = (5, 5, 6)


def minded_by_hand(heights, target):
    x, y, n = target
    if heights[y][x] == n:
        return ((x, y),)
    closed = closed_by_hand(heights, target)
    beside = [spot for spot in open_by_hand(heights, target) if any(way_by_hand(spot, near) == 1 for near in closed)]
    return tuple(sorted(closed + beside))


def no_fractions():
    """Things that no WORTH can be."""
    return [thing for thing in ODD_THINGS if thing != (1, 2)] + [
        (0, 1), (2, 4), (1, 0), (1, -1), (True, 1), (1, True), (1.0, 1), [1, 2], (1, 2, 3)]


def form_by_hand(form, x, y, height):
    return {"one": 1, "x": x, "y": y, "height": height, "xy": x * y, "x height": x * height, "y height": y * height,
            "squares": x ** 2 + y ** 2 + height ** 2}[form]


class Minds(unittest.TestCase):
    def test_by_hand(self):
        self.assertEqual(minded(FLAT, (2, 2, 2)), ((1, 2), (2, 1), (2, 2), (2, 3), (3, 2)))
        self.assertEqual(minded(FLAT, (2, 2, 0)), ((2, 2),))
        self.assertEqual(minded(FLAT, (0, 1, 1)), ((0, 1),))
        self.assertEqual(minding(FLAT, (0, 0)), ((0, 0, 0),))
        self.assertEqual(minding(FLAT, (1, 1)), ((1, 1, 0), (1, 1, 2)))

    def test_all_that_have_targets(self):
        for heights, target in some_targets():
            self.assertEqual(minded(field=field_on(heights), target=target), minded_by_hand(heights, target))

    def test_minding_for_all_spots(self):
        found = [FLAT[0], flat_field(1, 4)[0], flat_field(7, 6)[0], random_heights(6, 5, "minding"),
                 low_heights(6, 6, "minding", 12), low_heights(5, 7, "minding more", 20), ((34, 35), (35, 34))]
        for heights in found:
            every = {target: minded_by_hand(heights, target) for target in targets_of(heights)}
            for spot in places_of(heights):
                told = tuple(target for target in sorted(every) if spot in every[target])
                self.assertEqual(minding(field=field_on(heights), spot=spot), told)

    def test_what_it_does_not_mind_has_power_0_and_what_it_minds_others(self):
        for heights, target in some_targets():
            if heights[target[1]][target[0]] == target[2]:
                continue
            every = [powers for powers, _, _ in told_of_all(heights, target)]
            closed, beside = closed_by_hand(heights, target), minded(field_on(heights), target)
            for spot in places_of(heights):
                met = {powers.get(spot, 0) for powers in every}
                if spot in closed:
                    self.assertEqual(min(met), -1)
                else:
                    self.assertEqual(met, {0, 1} if spot in beside else {0})

    def test_refused_in_order(self):
        for place, thing in NO_FIELDS:
            self.assertEqual(outcome(minded, thing, None), ("BadField", {"place": place}))
            self.assertEqual(outcome(minding, thing, None), ("BadField", {"place": place}))
        for thing in no_targets((2, 2, 2)):
            self.assertEqual(outcome(minded, FLAT, thing), ("BadTarget", {}))
        for thing in no_spots(5, 5):
            self.assertEqual(outcome(minding, FLAT, thing), ("BadSpot", {}))


class Parts(unittest.TestCase):
    def parts_by_hand(self, field, target, spot, rule):
        found = {}
        worths = field[1]
        for pairing in pairings_by_hand(field[0], target):
            powers = powers_by_hand(field[0], target, pairing)
            often_a, often_b = counts_by_hand(pairing)
            value = Fraction(rule[0]) ** int(often_a) * Fraction(rule[1]) ** int(often_b)
            for (x, y), power in powers.items():
                if (x, y) != spot:
                    value *= Fraction(*worths[y][x]) ** power
            found[powers[spot]] = found.get(powers[spot], Fraction(0)) + value
        return tuple((power, pair(found[power])) for power in sorted(found))

    def test_by_hand(self):
        field = with_worth(flat(3, 3), (1, 1), (2, 1))
        self.assertEqual(parts(field, (1, 1, 2), (1, 1), rule=(3, 4)), ((-1, (7, 1)),))
        self.assertEqual(parts(field, (1, 1, 2), (0, 1), rule=(3, 4)), ((0, (2, 1)), (1, (3, 2))))
        self.assertEqual(parts(field, (1, 1, 2), (0, 0)), ((0, (1, 1)),))
        self.assertEqual(parts(field, (1, 1, 0), (1, 1)), ((1, (1, 1)),))
        self.assertEqual(parts(field, (1, 1, 0), (0, 1)), ((0, (2, 1)),))
        # By (1, -1) both come to nought, and are told all the same.
        self.assertEqual(parts(flat(3, 3), (1, 1, 2), (1, 1), rule=(1, -1)), ((-1, (0, 1)),))

    def test_all_spots(self):
        for number, (heights, target) in enumerate(some_targets()):
            if len(told_of_all(heights, target)) > 200:
                continue
            field = (heights, small_worths(heights, number))
            rule = RULES[number % len(RULES)]
            for spot in places_of(heights)[number % 3::3] + list(minded(field, target)):
                told = parts(field=field, target=target, spot=spot, rule=rule)
                self.assertEqual(told, self.parts_by_hand(field, target, spot, rule))

    def test_put_together(self):
        for number, (heights, target) in enumerate(some_targets()):
            field = (heights, small_worths(heights, f"parts {number}"))
            rule = RULES[number % len(RULES)]
            for spot in minded(field, target)[:4] + ((0, 0),):
                told = parts(field, target, spot, rule=rule)
                for worth in (worth_of(field, spot), (-3, 2), (5, 1)):
                    total = sum(Fraction(*part) * Fraction(*worth) ** power for power, part in told)
                    self.assertEqual(changed(field=field, target=target, spot=spot, fraction=worth, rule=rule),
                                     pair(total))
                    self.assertEqual(pair(total), worth_by_pairings(with_worth(field, spot, worth), target, rule=rule))
                self.assertEqual(changed(field, target, spot, worth_of(field, spot), rule=rule),
                                 pair(sum_by_hand(field, target, rule)))

    def test_the_field_stays(self):
        field = flat_field(5, 5)
        changed(field, (2, 2, 2), (2, 2), (9, 1))
        self.assertEqual(field, flat_field(5, 5))

    def test_refused_in_order(self):
        for call in (lambda field, target, spot, rule: parts(field, target, spot, rule=rule),
                     lambda field, target, spot, rule: changed(field, target, spot, (2, 1), rule=rule)):
            for place, thing in NO_FIELDS:
                self.assertEqual(outcome(call, thing, None, None, None), ("BadField", {"place": place}))
            for thing in no_targets((2, 2, 2)):
                self.assertEqual(outcome(call, FLAT, thing, None, None), ("BadTarget", {}))
            for thing in no_spots(5, 5):
                self.assertEqual(outcome(call, FLAT, (2, 2, 2), thing, None), ("BadSpot", {}))
            for rule in NO_RULES:
                self.assertEqual(outcome(call, MANY, FAR, (0, 0), rule), ("BadRule", {}))
            self.assertEqual(outcome(call, MANY, FAR, (0, 0), (1, 1)), ("TooGreat", {"most": 4096}))
        self.assertEqual(outcome(changed, FLAT, (2, 2, 2), (9, 9), None, rule=None), ("BadSpot", {}))
        for thing in no_fractions():
            self.assertEqual(outcome(changed, FLAT, (2, 2, 2), (1, 1), thing, rule=None), ("BadFraction", {}), thing)
        self.assertEqual(outcome(changed, MANY, FAR, (1, 1), (0, 1)), ("BadFraction", {}))

    def test_4096_at_most(self):
        found = set()
        for target in targets_of(MANY[0]):
            if target[0] == 3:
                told = outcome(parts, MANY, target, (0, 0))[0]
                self.assertEqual(told, outcome(pairings, MANY, target)[0])
                found.add(told)
        self.assertEqual(found, {"told", "TooGreat"})


class Forms(unittest.TestCase):
    def test_in_order(self):
        self.assertEqual(FORMS, ("one", "x", "y", "height", "xy", "x height", "y height", "squares"))

    def test_form_at(self):
        for form, x, y, height in itertools.product(FORMS, (0, 3, 10), (0, 1, 7), (-40, -1, 0, 2)):
            self.assertEqual(form_at(form=form, x=x, y=y, height=height), form_by_hand(form, x, y, height))
        self.assertEqual(form_at("squares", 10 ** 999, 0, 0), 10 ** 1998)

    def test_bad_form_of_anything(self):
        wrong = ODD_THINGS + ["ONE", "one ", " x", "yx", "x  height", "height x", "square", ("x",), ["one"], b"x",
                              Word("x"),
                              0, "x y"]
        for thing in wrong:
            self.assertEqual(outcome(form_at, thing, 1, 1, 0), ("BadForm", {}))
            self.assertEqual(outcome(laden, FLAT, thing, None), ("BadForm", {}))
            self.assertEqual(outcome(weighed, FLAT, (2, 2, 2), pairings(FLAT, (2, 2, 2))[0], thing), ("BadForm", {}))

    def test_of_each_pairing_the_form_of_the_target(self):
        for heights, target in some_targets():
            field = field_on(heights)
            for number, pairing in enumerate(pairings_by_hand(heights, target)[::17]):
                for form in FORMS:
                    self.assertEqual(weighed(field=field, target=target, pairing=pairing, form=form),
                                     form_by_hand(form, *target))

    def test_weighed_refused_in_order(self):
        pairing = pairings(FLAT, (2, 2, 2))[0]
        for place, thing in NO_FIELDS:
            self.assertEqual(outcome(weighed, thing, None, None, None), ("BadField", {"place": place}))
        for thing in no_targets((2, 2, 2)):
            self.assertEqual(outcome(weighed, FLAT, thing, None, None), ("BadTarget", {}))
        for number, thing in ((None, None), (1, pairing[:1]), (0, (None,)), (0, ())):
            self.assertEqual(outcome(weighed, FLAT, (2, 2, 2), thing, None), ("BadPairing", {"number": number}))
        self.assertRaises(BadForm, weighed, FLAT, (2, 2, 2), pairing, None)


class Word(str):
    """A text that is none."""


class Laden(unittest.TestCase):
    def test_each_worth(self):
        for seed, form, one in itertools.product(range(3), FORMS, ((2, 3), (-5, 1), (1, 1), (-1, 2))):
            field = random_field(5, 4, f"laden {seed}", 20)
            told = laden(field=field, form=form, fraction=one)
            self.assertEqual(told[0], field[0])
            self.assertEqual(told[1], rows_by(5, 4, lambda x, y: pair(
                Fraction(*field[1][y][x]) * Fraction(*one) ** form_by_hand(form, x, y, field[0][y][x]))))
            self.assertIs(is_field(told), True)
            over = pair(1 / Fraction(*one))
            self.assertEqual(laden(told, form, over), field)

    def test_the_worth_at_a_target(self):
        for number, (heights, target) in enumerate(some_targets()):
            field = field_on(heights)
            rule, form, one = RULES[number % 7], FORMS[number % 8], ((2, 3), (-3, 1))[number % 2]
            try:
                ahead = worth_at(field, *target, rule=rule)
            except Nought:
                self.assertRaises(Nought, worth_at, laden(field, form, one), *target, rule=rule)
                continue
            value = Fraction(*ahead) * Fraction(*one) ** form_by_hand(form, *target)
            self.assertEqual(worth_at(laden(field, form, one), *target, rule=rule), pair(value))

    def test_too_great_from_either_side(self):
        bound = 10 ** 100
        # X goes to 10, so that F to 10 has a thousand figures, or one more.
        for field, form in ((flat(11, 1), "x"), (flat(1, 11), "y")):
            for one in ((bound - 1, 1), (1, bound - 1), (1 - bound, 1), (bound - 1, bound - 2)):
                told = laden(field, form, one)
                self.assertIn(pair(Fraction(*one) ** 10), [worth for row in told[1] for worth in row])
            for one in ((bound, 1), (1, bound), (-bound, 1), (bound, bound - 1), (bound - 1, bound), (-1, bound)):
                self.assertEqual(outcome(laden, field, form, one), ("TooGreat", {"most": 1000}))
        for worth, refused in ((10 ** 999, False), (10 ** 1000 - 1, False), (10 ** 1000, True), (10 ** 1000 + 1, True)):
            field = (((0, 1),), (((1, 1), (1, 1)),))
            self.assertEqual(outcome(laden, field, "one", (worth, 1))[0], "TooGreat" if refused else "told")
            self.assertEqual(outcome(laden, field, "one", (1, worth))[0], "TooGreat" if refused else "told")
            field = (((0, 1),), (((1, 1), (worth, 1)),))
            self.assertEqual(outcome(laden, field, "x", (1, 1))[0], "TooGreat" if refused else "told")

    def test_what_cancels_is_told(self):
        big = 7 ** 1100
        field = (((0, 1),), (((1, 1), (1, big ** 2)),))
        self.assertEqual(laden(field, "x", (big ** 2, 1)), (((0, 1),), (((1, 1), (1, 1)),)))
        self.assertEqual(laden(field, "x", (-big ** 2, 3)), (((0, 1),), (((1, 1), (-1, 3)),)))
        self.assertEqual(laden((((0, 1),), (((1, 1), (3 * big, 5)),)), "x", (1, big)), (((0, 1),), (((1, 1), (3, 5)),)))
        root = 7 ** 550
        tall = (((0, 1, 2),), (((1, 1), (1, 1), (1, big)),))
        self.assertEqual(laden(tall, "height", (root, 1)), (((0, 1, 2),), (((1, 1), (root, 1), (1, 1)),)))
        # Turned over nothing cancels.
        self.assertEqual(outcome(laden, tall, "height", (1, root)), ("TooGreat", {"most": 1000}))

    def test_no_worth_is_long_where_the_form_is_0(self):
        field = (((0,),), (((3, 2),),))
        for form in FORMS[1:]:
            self.assertEqual(laden(field, form, (10 ** 3000, 1)), field)
            self.assertEqual(laden(field, form, (1, 10 ** 3000)), field)
        self.assertEqual(outcome(laden, field, "one", (10 ** 3000, 1)), ("TooGreat", {"most": 1000}))
        self.assertEqual(outcome(laden, flat(11, 11), "squares", (10 ** 40000 + 1, 1)), ("TooGreat", {"most": 1000}))
        self.assertEqual(laden(flat(11, 11), "squares", (-1, 1))[1][0][1], (1, 1))

    def test_refused_in_order(self):
        for place, thing in NO_FIELDS:
            self.assertEqual(outcome(laden, thing, None, None), ("BadField", {"place": place}))
        for thing in no_fractions():
            self.assertEqual(outcome(laden, FLAT, "one", thing), ("BadFraction", {}), thing)


if __name__ == "__main__":
    unittest.main()
