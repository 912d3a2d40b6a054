"""hollowrise.webs: KNOTS, TIES and the WEB of a TARGET."""

import itertools
import unittest

from hollowrise.deeds import hollows, raised
from hollowrise.errors import BadField, BadSpot, BadTarget
from hollowrise.fields import mirrored, turned
from hollowrise.webs import ends, is_side, knots, knots_at, ties_at, web
from tests.plain import places_of
from tests.plain_webs import (
    called, closed_by_hand, corners_of, ends_by_hand, field_on, knots_by_hand, low_heights, low_steep, some_heights,
    some_targets, targets_of, ties_by_hand, top_at, way_by_hand, web_by_hand)
from tests.samples import ODD_THINGS, SIZES, flat_field, random_field, steep_field
from tests.test_fields import NO_FIELDS, no_spots
from tests.test_targets import no_targets

FLAT = flat_field(5, 5)
# Of the CORNERS of SLOPE (0, 0) has sw and ne unlike, (1, 0) se and nw, (0, 1) and (1, 1) none.
SLOPE = field_on(((0, 1, 0), (1, 2, 1), (0, 1, 2)))


class Knots(unittest.TestCase):
    def test_by_hand(self):
        self.assertEqual(knots_at(FLAT, (0, 0)), ((0, 0, "all"),))
        self.assertEqual(knots_at(SLOPE, (0, 0)), ((0, 0, "ne"), (0, 0, "sw")))
        self.assertEqual(knots_at(field=SLOPE, corner=(1, 0)), ((1, 0, "nw"), (1, 0, "se")))
        self.assertEqual(knots_at(SLOPE, (0, 1)), ((0, 1, "nw"), (0, 1, "se")))
        self.assertEqual(knots_at(SLOPE, (1, 1)), ((1, 1, "all"),))

    def test_all_corners(self):
        seen = set()
        fields = [random_field(wide, high, "corners") for wide, high in SIZES]
        fields += [steep_field(11, 11, 34), field_on(low_steep(11, 11, -35)), field_on(low_heights(9, 10, 3, 35))]
        for field in fields:
            for corner in corners_of(field[0]):
                told = knots_at(field, corner)
                self.assertEqual(told, knots_by_hand(field[0], corner))
                self.assertEqual(told, tuple(sorted(told)))
                seen.add(tuple(word for _, _, word in told))
        self.assertEqual(seen, {("all",), ("ne", "sw"), ("nw", "se")})

    def test_bad_spot_of_no_corner(self):
        for wide, high in [(1, 1), (1, 5), (5, 1), (2, 2), (3, 4), (11, 11)]:
            field = random_field(wide, high, "no corner")
            wrong = [thing for thing in no_spots(wide - 1, high - 1) if thing != (0, 0) or min(wide, high) == 1]
            wrong += [(wide - 1, 0), (0, high - 1), (wide - 1, high - 1)]
            for thing in wrong:
                self.assertRaises(BadSpot, knots_at, field, thing)


class Ties(unittest.TestCase):
    def test_by_hand(self):
        self.assertEqual(ends(FLAT, ((1, 1), (1, 2))), ((0, 1, "all"), (1, 1, "all")))
        self.assertEqual(ends(FLAT, ((1, 1), (2, 1))), ((1, 0, "all"), (1, 1, "all")))
        self.assertEqual(ends(field=SLOPE, tie=((0, 1), (1, 0))), ((0, 0, "ne"), (0, 0, "sw")))
        self.assertEqual(ends(SLOPE, ((0, 1), (1, 1))), ((0, 0, "ne"), (0, 1, "se")))
        self.assertEqual(ends(SLOPE, ((1, 0), (1, 1))), ((0, 0, "ne"), (1, 0, "nw")))
        self.assertEqual(ends(SLOPE, ((1, 1), (2, 1))), ((1, 0, "nw"), (1, 1, "all")))
        self.assertEqual(ends(SLOPE, ((1, 1), (1, 2))), ((0, 1, "se"), (1, 1, "all")))
        self.assertEqual(ends(SLOPE, ((1, 0), (2, 1))), ((1, 0, "nw"), (1, 0, "se")))

    def test_all_pairs_of_spots(self):
        kinds = {"SIDE": 0, "LEG": 0}
        for heights in some_heights():
            field = field_on(heights)
            ties = ties_by_hand(heights)
            for one, other in itertools.product(places_of(heights), repeat=2):
                if (one, other) in ties:
                    told = ends(field, (one, other))
                    self.assertEqual(told, ties[one, other])
                    self.assertEqual(told, tuple(sorted(told)))
                    self.assertEqual(len(set(told)), 2)
                    kinds["SIDE" if way_by_hand(one, other) == 1 else "LEG"] += 1
                else:
                    self.assertRaises(BadSpot, ends, field, (one, other))
        self.assertGreater(min(kinds.values()), 50)

    def test_pairs_turned_about_and_spots_twice(self):
        for heights in (FLAT[0], SLOPE[0], low_heights(6, 6, "about", 20)):
            for one, other in ties_by_hand(heights):
                for thing in ((other, one), (one, one), (other, other), [one, other], (list(one), other),
                              (one, list(other)), (one,), (one, other, other), one + other, (one, None), (None, other)):
                    self.assertRaises(BadSpot, ends, field_on(heights), thing)

    def test_bad_spot_of_anything(self):
        for thing in ODD_THINGS + [(True, 1), ((1, 1), (True, 2)), ((1, True), (1, 2)), ((1, 1), (1, 2.0)), "ab",
                                   ((1, 1), "ab"), (("1", "1"), ("1", "2")), ((0, 0), (0, 1)), ((0, 0), (1, 0)),
                                   ((4, 3), (4, 4)), ((3, 4), (4, 4)), ((1, 1), (2, 2)), ((1, 2), (2, 1)),
                                   ((1, 1), (3, 1)), ((1, 1), (1, 3)), ((4, 1), (5, 1)), ((-1, 1), (0, 1)),
                                   ((1, 1), (10 ** 999, 1)), {(1, 1): 0, (1, 2): 0}]:
            self.assertRaises(BadSpot, ends, FLAT, thing)

    def test_is_side(self):
        for heights in some_heights():
            for one, other in ties_by_hand(heights):
                self.assertIs(is_side((one, other)), way_by_hand(one, other) == 1)
        self.assertIs(is_side(tie=((0, 1), (1, 0))), False)

    def test_a_leg_leads_from_one_knot_of_its_corner_to_the_other(self):
        for heights in some_heights():
            for corner in corners_of(heights):
                told = knots_at(field_on(heights), corner)
                legs = [pair for pair in (("sw", "ne"), ("nw", "se"))
                        if ends_by_hand(heights, called(corner, pair[0]), called(corner, pair[1])) == told]
                self.assertEqual(len(legs), len(told) - 1)


class Web(unittest.TestCase):
    def test_by_hand(self):
        sides = (((1, 2), (2, 2)), ((2, 1), (2, 2)), ((2, 2), (2, 3)), ((2, 2), (3, 2)))
        self.assertEqual(web(FLAT, (2, 2, 2)), sides)
        self.assertEqual(knots(FLAT, (2, 2, 2)), ((1, 1, "all"), (1, 2, "all"), (2, 1, "all"), (2, 2, "all")))
        self.assertEqual(ties_at(FLAT, (2, 2, 2), (2, 2)), sides)
        self.assertEqual(ties_at(field=FLAT, target=(2, 2, 2), spot=(2, 3)), sides[2:3])
        self.assertEqual(ties_at(FLAT, (2, 2, 2), (1, 1)), ())

    def test_of_many_targets(self):
        legs = 0
        for heights in some_heights():
            field = field_on(heights)
            for target in targets_of(heights)[::3]:
                ties = web_by_hand(heights, target)
                self.assertEqual(web(field=field, target=target), tuple(ties))
                every = {knot for pair in ties.values() for knot in pair}
                self.assertEqual(knots(field=field, target=target), tuple(sorted(every)))
                legs += sum(not is_side(tie) for tie in ties)
                for spot in places_of(heights):
                    self.assertEqual(ties_at(field, target, spot), tuple(tie for tie in ties if spot in tie))
        self.assertGreater(legs, 100)

    def test_of_the_greatest_targets(self):
        for heights in (low_heights(11, 11, "great", 35), flat_field(11, 11)[0], low_steep(11, 11, 34)):
            target = (5, 5, top_at(heights, 5, 5))
            ties = web_by_hand(heights, target)
            self.assertEqual(web(field_on(heights), target), tuple(ties))
            self.assertEqual(knots(field_on(heights), target),
                             tuple(sorted({knot for pair in ties.values() for knot in pair})))

    def test_of_a_target_that_stands_on_the_field_nothing(self):
        for heights in some_heights():
            for x, y in places_of(heights):
                target = (x, y, heights[y][x])
                self.assertEqual((web(field_on(heights), target), knots(field_on(heights), target)), ((), ()))
                self.assertEqual(ties_at(field_on(heights), target, (x, y)), ())

    def test_round_each_closed_spot(self):
        seen = set()
        for wide, high in SIZES:
            if min(wide, high) > 2:
                heights = low_heights(wide, high, "round", 35)
                field = field_on(heights)
                target = (wide // 2, high // 2, top_at(heights, wide // 2, high // 2))
                for spot in closed_by_hand(heights, target):
                    at_it = ties_at(field, target, spot)
                    sides = [tie for tie in at_it if is_side(tie)]
                    self.assertEqual(len(sides), 4)
                    self.assertIn(len(at_it) - 4, (0, 2, 4))
                    seen.add(len(at_it))
        self.assertEqual(seen, {4, 6, 8})

    def test_each_tie_is_there_with_both_its_ends_and_each_knot_has_one_or_more(self):
        for heights, target in some_targets():
            field = field_on(heights)
            every = knots(field, target)
            count = dict.fromkeys(every, 0)
            for tie in web(field, target):
                for knot in ends(field, tie):
                    count[knot] += 1
            self.assertEqual(sorted(count), list(every))
            self.assertTrue(all(many >= 1 for many in count.values()))
            self.assertEqual(len(every) % 2, 0)

    def test_turned(self):
        about = {"all": "all", "sw": "sw", "ne": "ne", "se": "nw", "nw": "se"}
        for heights, (x, y, n) in some_targets():
            field = field_on(heights)
            ties = sorted(tuple(sorted(((b, a), (d, c)))) for (a, b), (c, d) in web(field, (x, y, n)))
            self.assertEqual(web(turned(field), (y, x, n)), tuple(ties))
            self.assertEqual(knots(turned(field), (y, x, n)),
                             tuple(sorted((b, a, about[word]) for a, b, word in knots(field, (x, y, n)))))

    def test_mirrored(self):
        about = {"all": "all", "sw": "se", "ne": "nw", "se": "sw", "nw": "ne"}
        for heights, (x, y, n) in some_targets():
            field = field_on(heights)
            east = len(heights[0]) - 1
            target = (east - x, y, n + east % 2)
            ties = sorted(tuple(sorted(((east - a, b), (east - c, d)))) for (a, b), (c, d) in web(field, (x, y, n)))
            self.assertEqual(web(mirrored(field), target), tuple(ties))
            self.assertEqual(knots(mirrored(field), target),
                             tuple(sorted((east - 1 - a, b, about[word]) for a, b, word in knots(field, (x, y, n)))))

    def test_what_stays_where_a_hollow_is_raised(self):
        kept = changed = 0
        for heights, target in some_targets():
            field = field_on(heights)
            ahead = web(field, target)
            for x, y in hollows(field):
                if (x, y) == target[:2] and target[2] == heights[y][x]:
                    continue
                behind = web(raised(field, (x, y)), target)
                if (x, y) not in closed_by_hand(heights, target):
                    self.assertEqual(behind, ahead)
                    kept += 1
                    continue
                near = [(x - 1, y), (x, y - 1), (x, y + 1), (x + 1, y)]
                corner_legs = [tuple(sorted(pair)) for pair in itertools.combinations(near, 2)]
                own = [tuple(sorted((spot, (x, y)))) for spot in near]
                others = [tie for tie in ahead if tie not in corner_legs + own]
                self.assertEqual([tie for tie in behind if tie not in corner_legs + own], others)
                changed += ahead != behind
        self.assertGreater(kept, 50)
        self.assertGreater(changed, 50)


class Refused(unittest.TestCase):
    def test_in_order(self):
        asked = [lambda field, target, spot: web(field, target), lambda field, target, spot: knots(field, target),
                 ties_at]
        for call in asked:
            for thing in no_targets((2, 2, 2)):
                if thing != (2, 2, 0):
                    self.assertRaises(BadTarget, call, FLAT, thing, None)
            for place, thing in NO_FIELDS:
                with self.assertRaises(BadField) as caught:
                    call(thing, None, None)
                self.assertEqual(caught.exception.place, place)
        for thing in no_spots(5, 5):
            self.assertRaises(BadSpot, ties_at, FLAT, (2, 2, 2), thing)
            self.assertRaises(BadTarget, ties_at, FLAT, (2, 2, 4), thing)
        for function in (knots_at, ends):
            for place, thing in NO_FIELDS:
                with self.assertRaises(BadField) as caught:
                    function(thing, None)
                self.assertEqual(caught.exception.place, place)


if __name__ == "__main__":
    unittest.main()
