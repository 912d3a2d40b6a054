"""hollowrise.fields: boards, SPOTS, FIELDS and what is asked of them."""

import copy
import inspect
import itertools
import unittest

from hollowrise import fields
from hollowrise.errors import BadField, BadFraction, BadSpot
from hollowrise.fields import (
    board, height_at, inner, is_field, mirrored, need_field, neighbours, rim, spots, turned, upside_down, way,
    with_worth, worth_of)
from tests.samples import (
    ODD_THINGS, SIXTY, SIZES, flat_field, lacks_one, near_places, place_of, random_field, random_heights, rows_by,
    steep_field, with_thing, worths_for)

ONE = (1, 1)
SMALL = (((0, 1), (1, 0), (2, 1)), (((1, 2), (-3, 1)), ((5, 7), ONE), (ONE, (SIXTY, 2))))
SMALL_SPOTS = ((0, 0), (0, 1), (0, 2), (1, 0), (1, 1), (1, 2))

# One thing that is no FIELD for each place, and things that are wrong in several ways at once.
NO_FIELDS = [
    (None, None), (None, []), (None, ()), (None, (SMALL[0],)), (None, SMALL + (1,)), (None, list(SMALL)),
    ("heights", (None, None)), ("heights", ((), ())), ("heights", (((36,),), ((ONE,),))),
    ("heights", (((1,),) * 12, None)), ("heights", (((1, 37),), 0)),
    ("steps", (((1,),), ((ONE,),))), ("steps", (((0, 3),), None)),
    ("worths", (((0,),), None)), ("worths", (((0,),), (((0, 1),),))), ("worths", (((0,),), (((2, 2),),))),
]

# Each function that takes a FIELD, with what stands behind it where it is handed in rightly.
TAKERS = [
    (board, {}), (spots, {}), (rim, {}), (inner, {}), (upside_down, {}), (mirrored, {}), (turned, {}),
    (neighbours, {"spot": (0, 0)}), (height_at, {"spot": (0, 0)}), (worth_of, {"spot": (0, 0)}),
    (with_worth, {"spot": (0, 0), "fraction": ONE}),
]


def no_spots(wide, high):
    """Things that are no SPOT of a BOARD of WIDE by HIGH."""
    wrong = [(-1, 0), (0, -1), (wide, 0), (0, high), (wide, high), (-1, -1), (10 ** 999, 0), (0, -10 ** 999),
             [0, 0], (0,), (0, 0, 0), (True, 0), (0, False), (False, False), (0.0, 0), (0, None), ("0", "0"), ((0, 0),),
             ((0,), 0), "00", b"00", {0: 0}, 0, None]
    return wrong + [thing for thing in ODD_THINGS if thing != (1, 2)]


class Sizes(unittest.TestCase):
    def test_the_two_numbers(self):
        self.assertEqual((fields.MOST_SIDE, fields.MOST_RIM), (11, 35))

    def test_names_and_places_of_arguments(self):
        told = {"is_field": ["thing"], "need_field": ["thing"], "board": ["field"], "spots": ["field"],
                "rim": ["field"], "inner": ["field"], "neighbours": ["field", "spot"], "height_at": ["field", "spot"],
                "worth_of": ["field", "spot"], "way": ["spot", "other"], "with_worth": ["field", "spot", "fraction"],
                "upside_down": ["field"], "mirrored": ["field"], "turned": ["field"]}
        for name, arguments in told.items():
            function = getattr(fields, name)
            self.assertEqual(list(inspect.signature(function).parameters), arguments, name)
            self.assertEqual(function.__module__, "hollowrise.fields")


class Refused(unittest.TestCase):
    def check(self, thing, place):
        self.assertEqual(place_of(thing), place)
        self.assertIs(is_field(thing), False)
        with self.assertRaises(BadField) as caught:
            need_field(thing)
        self.assertEqual(caught.exception.place, place)

    def test_of_anything(self):
        for thing in ODD_THINGS:
            if isinstance(thing, tuple) and len(thing) == 2:
                self.check(thing, "heights")
            else:
                self.check(thing, None)

    def test_no_tuple_of_two(self):
        for field in (SMALL, flat_field(11, 11)):
            for thing in (list(field), field[:1], field + (None,), field + field, {0: field[0], 1: field[1]}, field[:0]):
                self.check(thing, None)

    def test_heights_that_are_no_rows(self):
        for wide, high in [(1, 1), (2, 3), (11, 11), (1, 11), (11, 1)]:
            rows, worths = flat_field(wide, high)
            for wrong in (list(rows), (), [], None, "ab", 0, rows[0], {0: rows[0]}, rows[:-1] + (list(rows[-1]),),
                          (list(rows[0]),) + rows[1:], (None,) + rows[1:], rows[:-1] + (None,), ((),) * high,
                          ([],) * high):
                self.check((wrong, worths), "heights")

    def test_heights_of_rows_of_unlike_lengths(self):
        for wide, high in [(1, 2), (2, 2), (2, 3), (11, 11), (1, 11), (10, 2)]:
            rows, worths = flat_field(wide, high)
            for at in (0, high - 1):
                longer = rows[at] + ((at + wide) % 2,)
                for row in (longer, rows[at][:-1], ()):
                    self.check((rows[:at] + (row,) + rows[at + 1:], worths), "heights")

    def test_sides_of_0_and_12(self):
        for wide, high in [(0, 1), (0, 11), (12, 1), (1, 12), (12, 12), (12, 11), (11, 12), (0, 0), (1, 0), (100, 1)]:
            self.check(flat_field(wide, high), "heights")
            self.check((flat_field(wide, high)[0], None), "heights")

    def test_heights_that_are_no_whole_numbers(self):
        for wide, high in [(1, 1), (3, 2), (11, 11), (3, 3)]:
            rows, worths = flat_field(wide, high)
            for x, y in {(0, 0), (wide - 1, high - 1), (wide - 1, 0), (0, high - 1), (wide // 2, high // 2)}:
                even = (x + y) % 2 == 0
                for wrong in (None, even is False, float(rows[y][x]), "0", (0,), [0], complex(rows[y][x]), b"0", ()):
                    self.check((with_thing(rows, x, y, wrong), worths), "heights")

    def test_heights_of_the_rim(self):
        for wide, high in [(1, 1), (1, 2), (2, 2), (3, 3), (4, 5), (11, 11)]:
            for x, y in itertools.product(range(wide), range(high)):
                for height in (36, -36, 37, -37, 10 ** 999, -10 ** 999):
                    rows, worths = flat_field(wide, high)
                    wrong = (with_thing(rows, x, y, height), worths)
                    on_rim = lacks_one(x, y, wide, high)
                    self.check(wrong, "heights" if on_rim else "steps")

    def test_rim_at_its_bounds(self):
        for rows, place in [(((34, 35),), ""), (((36, 35),), "heights"), (((-34, -35),), ""), (((-36, -35),), "heights"),
                            (((34, 35), (35, 36)), "heights"), (((-34, -35), (-35, -36)), "heights"),
                            (((34, 35), (35, 34)), ""), (((-34, -35), (-35, -34)), "")]:
            field = (rows, worths_for(len(rows[0]), len(rows)))
            self.assertEqual(place_of(field), place)
            if place:
                self.check(field, place)
            else:
                self.assertIs(is_field(field), True)

    def test_inner_ones_go_beyond(self):
        field = steep_field(11, 11, 34)
        self.assertEqual(field[0][5][5], 40)
        self.assertIs(is_field(field), True)
        self.assertIs(is_field(upside_down(field)), True)
        self.assertEqual(height_at(upside_down(field), (5, 5)), -40)
        rows = ((34, 35, 34), (35, 36, 35), (34, 35, 34))
        self.assertIs(is_field((rows, worths_for(3, 3))), True)
        self.assertIs(is_field(upside_down((rows, worths_for(3, 3)))), True)

    def test_rims_that_slope_to_their_bounds(self):
        # From each corner to the one across: as far as heights of one FIELD can be apart.
        for wide, high in [(11, 11), (11, 1), (1, 11), (10, 7), (2, 2), (3, 3)]:
            slopes = [lambda x, y: x + y, lambda x, y: x - y, lambda x, y: y - x, lambda x, y: -x - y,
                      lambda x, y: abs(x - wide // 2) + y, lambda x, y: -abs(x - wide // 2) - abs(y - high // 2)]
            for slope in slopes:
                for lift in range(-60, 61, 2):
                    rows = rows_by(wide, high, lambda x, y: slope(x, y) + lift)
                    field = (rows_by(wide, high, lambda x, y: rows[y][x] + (rows[0][0] % 2)), worths_for(wide, high))
                    if place_of(field):
                        self.check(field, "heights")
                    else:
                        self.assertIsNone(need_field(field))

    def test_evenness(self):
        for wide, high in [(1, 1), (1, 4), (4, 1), (3, 3), (11, 11)]:
            rows, worths = flat_field(wide, high)
            self.check((rows_by(wide, high, lambda x, y: rows[y][x] + 1), worths), "steps")
            self.check((rows_by(wide, high, lambda x, y: rows[y][x] - 1), None), "steps")

    def test_steps_at_each_spot(self):
        for wide, high in [(1, 2), (2, 1), (3, 3), (11, 11), (1, 11)]:
            rows, worths = flat_field(wide, high)
            for x, y in itertools.product(range(wide), range(high)):
                for change in (-4, -3, -1, 1, 3, 4):
                    self.check((with_thing(rows, x, y, rows[y][x] + change), worths), "steps")
                # By two it is a step still, to the side to which its NEIGHBOURS are.
                side = 2 if rows[y][x] == 0 else -2
                self.assertIs(is_field((with_thing(rows, x, y, rows[y][x] + side), worths)), True)
                self.check((with_thing(rows, x, y, rows[y][x] - side), worths), "steps")

    def test_worths_that_are_no_rows(self):
        for wide, high in [(1, 1), (2, 3), (11, 11), (1, 11), (11, 1)]:
            rows, worths = flat_field(wide, high)
            for wrong in (list(worths), (), [], None, "ab", 0, rows, worths[:-1], worths + worths[:1], {0: worths[0]},
                          worths[:-1] + (list(worths[-1]),), (list(worths[0]),) + worths[1:], worths[:-1] + (None,),
                          (None,) + worths[1:],
                          worths[:-1] + (worths[-1][:-1],), worths[:-1] + (worths[-1] + (ONE,),), ((),) * high,
                          tuple(row[:-1] for row in worths), tuple(row + (ONE,) for row in worths),
                          (worths[0] + (ONE,),) + worths[1:]):
                self.check((rows, wrong), "worths")

    def test_worths_that_are_no_fractions(self):
        for wide, high in [(1, 1), (3, 2), (11, 11), (3, 3)]:
            rows, worths = flat_field(wide, high)
            for x, y in {(0, 0), (wide - 1, high - 1), (wide - 1, 0), (0, high - 1), (wide // 2, high // 2)}:
                for wrong in ((0, 1), (2, 2), (1, 0), (1, -1), (-1, -1), (True, 1), (1, True), [1, 1], (1,), (1, 1, 1), 1,
                              1.0, "1", None, (1.0, 1), (1, 1.0), (2 * SIXTY, 2), (0, 0), (), True):
                    self.check((rows, with_thing(worths, x, y, wrong)), "worths")

    def test_what_claims_to_be_what_it_is_not(self):
        class Number(int):
            pass

        class Pair(tuple):
            pass

        class Liar:
            def __init__(self, thing):
                self.thing = thing

            @property
            def __class__(self):
                return type(self.thing)

            def __eq__(self, other):
                return True

            def __hash__(self):
                return hash(self.thing)

            def __len__(self):
                return len(self.thing)

            def __iter__(self):
                return iter(self.thing)

            def __getitem__(self, at):
                return self.thing[at]

        rows, worths = flat_field(3, 4)
        for kind in (Pair, Liar, list):
            self.check(kind((rows, worths)), None)
            self.check((kind(rows), worths), "heights")
            self.check((rows, kind(worths)), "worths")
            for y in range(4):
                self.check((rows[:y] + (kind(rows[y]),) + rows[y + 1:], worths), "heights")
                self.check((rows, worths[:y] + (kind(worths[y]),) + worths[y + 1:]), "worths")
        for x, y in itertools.product(range(3), range(4)):
            height, (above, below) = rows[y][x], worths[y][x]
            for thing in (Number(height), Liar(height), bool(height), float(height), complex(height)):
                self.check((with_thing(rows, x, y, thing), worths), "heights")
            for thing in (Pair((above, below)), Liar((above, below)), (Number(above), below), (above, Number(below)),
                          (Liar(above), below), (above, Liar(below)), (above, True), (True, below), (False, 1)):
                self.check((rows, with_thing(worths, x, y, thing)), "worths")

    def test_rows_of_one_length_less_or_more_behind_those_that_are_steps(self):
        rows, worths = flat_field(4, 4)
        for y in range(4):
            for row in (rows[y][:3], rows[y] + (y % 2,), rows[y] + (None,), rows[y][:3] + (None,), ()):
                wrong = rows[:y] + (row,) + rows[y + 1:]
                self.check((wrong, worths), "heights")
                self.check((wrong[:2] + ((9, 9, 9, 9),) + wrong[3:] if y != 2 else wrong, None), "heights")

    def test_the_first_place_that_is_due(self):
        for place, thing in NO_FIELDS:
            self.check(thing, place)

    def test_all_heights_of_a_few_sides(self):
        for wide, high in [(1, 1), (2, 1), (1, 2), (2, 2), (3, 1)]:
            worths = worths_for(wide, high)
            for numbers in itertools.product(range(-3, 4), repeat=wide * high):
                rows = rows_by(wide, high, lambda x, y: numbers[y * wide + x])
                self.assertIs(is_field((rows, worths)), place_of((rows, worths)) == "")

    def test_of_many_changed_ones(self):
        things = [0, 1, -1, 2, 35, -35, 36, -36, True, None, (1, 1), (0, 1), (2, 2), (-1, 2), (), []]
        for wide, high in [(1, 1), (2, 3), (4, 3), (5, 5)]:
            rows, worths = random_field(wide, high, "changed")
            for x, y in itertools.product(range(wide), range(high)):
                for thing in things:
                    for field in ((with_thing(rows, x, y, thing), worths), (rows, with_thing(worths, x, y, thing))):
                        if place_of(field) == "":
                            self.assertIsNone(need_field(field))
                        else:
                            self.check(field, place_of(field))

    def test_good_ones(self):
        for wide, high in SIZES:
            for seed in range(3):
                field = random_field(wide, high, seed)
                self.assertEqual(place_of(field), "")
                self.assertIs(is_field(field), True)
                self.assertIsNone(need_field(thing=field))
        self.assertIs(is_field(thing=SMALL), True)

    def test_worths_of_a_thousand_figures(self):
        field = (((0, 1),), (((10 ** 999, 10 ** 999 - 1), (-10 ** 5000, 3)),))
        self.assertIs(is_field(field), True)


class AheadOfAllElse(unittest.TestCase):
    def test_each_function_refuses_what_is_no_field(self):
        for function, more in TAKERS:
            wrong_more = {name: None for name in more}
            for place, thing in NO_FIELDS:
                for told in (more, wrong_more):
                    for call in (lambda: function(thing, *told.values()), lambda: function(field=thing, **told)):
                        with self.assertRaises(BadField) as caught:
                            call()
                        self.assertEqual(caught.exception.place, place, (function, thing))

    def test_each_function_takes_what_is_a_field(self):
        for function, more in TAKERS:
            self.assertEqual(function(SMALL, *more.values()), function(field=SMALL, **more))

    def test_handed_in_is_afterwards_what_it_was(self):
        for function, more in TAKERS:
            for field in (SMALL, random_field(11, 11, 5, 34), random_field(4, 1, 5, 34)):
                told = [field, *more.values()]
                kept = copy.deepcopy(told)
                function(*told)
                self.assertEqual(told, kept)
            for _, thing in NO_FIELDS:
                kept = copy.deepcopy(thing)
                with self.assertRaises(BadField):
                    function(thing, *more.values())
                self.assertEqual(thing, kept)

    def test_lists_handed_in_stay_as_they_are(self):
        thing = [[[0, 1]], [[[1, 1], [1, 1]]]]
        kept = copy.deepcopy(thing)
        self.assertIs(is_field(thing), False)
        self.assertIs(is_field((((0, 1),), thing[1])), False)
        self.assertIs(is_field((thing[0], (((1, 1), (1, 1)),))), False)
        spot = [0, 0]
        self.assertRaises(BadSpot, worth_of, SMALL, spot)
        self.assertRaises(BadFraction, with_worth, SMALL, (0, 0), spot)
        self.assertEqual((thing, spot), (kept, [0, 0]))


class Asked(unittest.TestCase):
    def test_by_hand(self):
        self.assertEqual(board(SMALL), (2, 3))
        self.assertEqual(spots(SMALL), SMALL_SPOTS)
        self.assertEqual(rim(SMALL), SMALL_SPOTS)
        self.assertEqual(inner(SMALL), ())
        self.assertEqual(neighbours(SMALL, (0, 0)), ((0, 1), (1, 0)))
        self.assertEqual(neighbours(SMALL, (1, 1)), ((0, 1), (1, 0), (1, 2)))
        self.assertEqual([height_at(SMALL, spot) for spot in SMALL_SPOTS], [0, 1, 2, 1, 0, 1])
        self.assertEqual([worth_of(SMALL, spot) for spot in SMALL_SPOTS],
                         [(1, 2), (5, 7), ONE, (-3, 1), ONE, (SIXTY, 2)])

    def test_three_by_three(self):
        field = flat_field(3, 3)
        self.assertEqual(inner(field), ((1, 1),))
        self.assertEqual(rim(field), ((0, 0), (0, 1), (0, 2), (1, 0), (1, 2), (2, 0), (2, 1), (2, 2)))
        self.assertEqual(neighbours(field, (1, 1)), ((0, 1), (1, 0), (1, 2), (2, 1)))

    def test_one_by_one(self):
        field = flat_field(1, 1)
        self.assertEqual((board(field), spots(field), rim(field), inner(field)), ((1, 1), ((0, 0),), ((0, 0),), ()))
        self.assertEqual(neighbours(field, (0, 0)), ())

    def test_all_sizes(self):
        for wide, high in SIZES:
            field = random_field(wide, high, "asked")
            everywhere = sorted((x, y) for y in range(high) for x in range(wide))
            self.assertEqual(board(field), (wide, high))
            self.assertEqual(spots(field), tuple(everywhere))
            edge = tuple(spot for spot in everywhere if lacks_one(*spot, wide, high))
            self.assertEqual(rim(field), edge)
            self.assertEqual(inner(field), tuple(spot for spot in everywhere if spot not in edge))
            self.assertEqual(len(inner(field)), max(wide - 2, 0) * max(high - 2, 0))

    def test_each_spot(self):
        for wide, high in [(1, 1), (1, 11), (11, 1), (2, 2), (4, 7), (11, 11)]:
            field = random_field(wide, high, "each")
            for x, y in itertools.product(range(wide), range(high)):
                near = [(a, b) for a, b in near_places(x, y) if 0 <= a < wide and 0 <= b < high]
                self.assertEqual(neighbours(field, (x, y)), tuple(sorted(near)))
                self.assertEqual(height_at(field, (x, y)), field[0][y][x])
                self.assertEqual(worth_of(field, (x, y)), field[1][y][x])

    def test_what_is_no_spot(self):
        for wide, high in [(1, 1), (1, 11), (11, 1), (3, 2), (11, 11)]:
            field = random_field(wide, high, "no spot")
            for thing in no_spots(wide, high):
                for function in (neighbours, height_at, worth_of):
                    with self.assertRaises(BadSpot, msg=repr(thing)):
                        function(field, thing)
                with self.assertRaises(BadSpot):
                    with_worth(field, thing, ONE)

    def test_what_is_no_spot_here_but_elsewhere(self):
        self.assertEqual(height_at(flat_field(11, 1), (10, 0)), 0)
        self.assertEqual(height_at(flat_field(1, 11), (0, 10)), 0)
        self.assertRaises(BadSpot, height_at, flat_field(1, 11), (10, 0))
        self.assertRaises(BadSpot, height_at, flat_field(11, 1), (0, 10))

    def test_way(self):
        self.assertEqual(way((0, 0), (0, 0)), 0)
        self.assertEqual(way((0, 3), (2, 1)), 4)
        self.assertEqual(way((10, 0), (0, 10)), 20)
        self.assertEqual(way(other=(4, 0), spot=(0, 1)), 5)
        for one in SMALL_SPOTS:
            for other in SMALL_SPOTS:
                self.assertEqual(way(one, other), abs(one[0] - other[0]) + abs(one[1] - other[1]))


class WithWorth(unittest.TestCase):
    def test_each_spot(self):
        for wide, high in [(1, 1), (1, 11), (11, 1), (2, 3), (11, 11)]:
            field = random_field(wide, high, "worth")
            for x, y in itertools.product(range(wide), range(high)):
                for worth in ((7, 3), (-1, 1), (SIXTY, 2), (1, 10 ** 998)):
                    changed = (field[0], with_thing(field[1], x, y, worth))
                    self.assertEqual(with_worth(field, (x, y), worth), changed)
                    self.assertIs(is_field(changed), True)

    def test_the_field_stays(self):
        kept = copy.deepcopy(SMALL)
        other = with_worth(field=SMALL, spot=(1, 0), fraction=(9, 2))
        self.assertEqual(SMALL, kept)
        self.assertEqual(other[1], (((1, 2), (9, 2)), ((5, 7), ONE), (ONE, (SIXTY, 2))))
        self.assertEqual(with_worth(other, (1, 0), (-3, 1)), SMALL)

    def test_what_none_of_its_worths_can_be(self):
        wrong = [(0, 1), (2, 2), (1, 0), (1, -1), (0, 0), (True, 1), (1, True), [1, 1], (1,), (1, 1, 1), 1, 1.0, "1"]
        for thing in wrong + [thing for thing in ODD_THINGS if thing != (1, 2)]:
            with self.assertRaises(BadFraction):
                with_worth(SMALL, (0, 0), thing)

    def test_the_first_refusal_that_is_due(self):
        for spot in no_spots(2, 3):
            self.assertRaises(BadSpot, with_worth, SMALL, spot, (0, 1))
            self.assertRaises(BadSpot, with_worth, SMALL, spot, None)
            self.assertRaises(BadField, with_worth, SMALL[:1], spot, None)


class Turned(unittest.TestCase):
    def test_by_hand(self):
        heights, worths = SMALL
        self.assertEqual(upside_down(SMALL), (((0, -1), (-1, 0), (-2, -1)), worths))
        self.assertEqual(turned(SMALL), (((0, 1, 2), (1, 0, 1)),
                                         (((1, 2), (5, 7), ONE), ((-3, 1), ONE, (SIXTY, 2)))))
        self.assertEqual(mirrored(SMALL), (((2, 1), (1, 2), (2, 3)),
                                           (((-3, 1), (1, 2)), (ONE, (5, 7)), ((SIXTY, 2), ONE))))
        odd = (((0, 1, 2), (1, 0, 1)), (((1, 2), (5, 7), ONE), ((-3, 1), ONE, (SIXTY, 2))))
        self.assertEqual(mirrored(odd), (((2, 1, 0), (1, 0, 1)),
                                         ((ONE, (5, 7), (1, 2)), ((SIXTY, 2), ONE, (-3, 1)))))

    def test_all_sizes(self):
        for wide, high in SIZES:
            rows, worths = field = random_field(wide, high, "turned", 34)
            rise = 1 if wide % 2 == 0 else 0
            self.assertEqual(upside_down(field), (rows_by(wide, high, lambda x, y: -rows[y][x]), worths))
            self.assertEqual(turned(field), (rows_by(high, wide, lambda x, y: rows[x][y]),
                                             rows_by(high, wide, lambda x, y: worths[x][y])))
            self.assertEqual(mirrored(field), (rows_by(wide, high, lambda x, y: rows[y][wide - 1 - x] + rise),
                                               rows_by(wide, high, lambda x, y: worths[y][wide - 1 - x])))
            for made in (upside_down(field), turned(field), mirrored(field)):
                self.assertEqual(place_of(made), "")
                self.assertIs(is_field(made), True)

    def test_done_twice(self):
        for wide, high in SIZES:
            rows, worths = field = random_field(wide, high, "twice", 33)
            rise = 2 if wide % 2 == 0 else 0
            self.assertEqual(upside_down(upside_down(field)), field)
            self.assertEqual(turned(turned(field)), field)
            self.assertEqual(mirrored(mirrored(field)), (rows_by(wide, high, lambda x, y: rows[y][x] + rise), worths))

    def test_at_the_bounds(self):
        for sign in (1, -1):
            field = (((sign * 34, sign * 35),), ((ONE, (2, 1)),))
            self.assertEqual(upside_down(field)[0], ((sign * -34, sign * -35),))
            self.assertEqual(turned(field)[0], ((sign * 34,), (sign * 35,)))
        self.assertEqual(mirrored((((-34, -35),), ((ONE, (2, 1)),))), (((-34, -33),), (((2, 1), ONE),)))
        self.assertEqual(mirrored((((34, 33),), ((ONE, (2, 1)),))), (((34, 35),), (((2, 1), ONE),)))

    def test_too_high_just_where_wide_is_even_and_35_on_the_rim(self):
        refused = set()
        for wide, high in SIZES:
            for seed in range(4):
                rows = random_heights(wide, high, seed)
                top = max(rows[y][x] for y in range(high) for x in range(wide) if lacks_one(x, y, wide, high))
                for lift in {0, 2 * ((35 - top) // 2)}:
                    rows_there = rows_by(wide, high, lambda x, y: rows[y][x] + lift)
                    field = (rows_there, worths_for(wide, high))
                    due = wide % 2 == 0 and top + lift == 35
                    refused.add((wide, due))
                    for function in (upside_down, turned):
                        self.assertIs(is_field(function(field)), True)
                    if not due:
                        self.assertIs(is_field(mirrored(field)), True)
                        continue
                    with self.assertRaises(BadField) as caught:
                        mirrored(field)
                    self.assertEqual(caught.exception.place, "high")
        self.assertLessEqual({(wide, wide % 2 == 0) for wide in range(1, 12)}, refused)

    def test_35_at_each_spot_of_the_rim(self):
        for wide, high in [(2, 1), (2, 3), (4, 4), (10, 11)]:
            for x, y in itertools.product(range(wide), range(high)):
                if (x + y) % 2 == 1:
                    rows = rows_by(wide, high, lambda a, b: 35 - abs(x - a) - abs(y - b))
                    field = (rows, worths_for(wide, high))
                    self.assertIs(is_field(field), True)
                    if lacks_one(x, y, wide, high):
                        with self.assertRaises(BadField) as caught:
                            mirrored(field)
                        self.assertEqual(caught.exception.place, "high")
                    else:
                        self.assertEqual(max(map(max, mirrored(field)[0])), 36)

    def test_inner_ones_beyond_35_are_mirrored(self):
        odd = steep_field(11, 11, 34)
        self.assertEqual((height_at(odd, (5, 5)), height_at(mirrored(odd), (5, 5))), (40, 40))
        even = steep_field(10, 11, 33)
        self.assertEqual((height_at(even, (4, 5)), height_at(mirrored(even), (5, 5))), (37, 38))


if __name__ == "__main__":
    unittest.main()
