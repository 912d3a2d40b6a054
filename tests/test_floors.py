"""FLOORS of small stones: which they are, as PAIRINGS, by LIFTS, by FLIPS, by numbers."""

import functools
import itertools
import random
import unittest

from hollowrise.deeds import raised
from hollowrise.errors import BadFloor, BadPairing, NoFlip
from hollowrise.fields import mirrored, upside_down
from hollowrise.flats import flat, flat_worth, leaning, order_of, told_floors
from hollowrise.floors import (
    MOST_NUMBERED, apart_floors, by_number, first_flips, flipped, flips, floor_by, floor_of, floor_order, floor_powers,
    floors, greater_floor, highest_floor, is_floor, lesser_floor, lift_sum, lifts_of, lowest_floor, number_by,
    pairing_by, standing)
from hollowrise.pairings import nth_pairing, pairing_worth, pairings, powers_of, rule_counts
from tests.plain import outcome, places_of
from tests.plain_floors import (
    first_flips_by_hand, flips_by_hand, floors_by_hand, in_rows, inner_spots, lift_by_hand, odd_lift, texts_of,
    ways_by_flips, wrong_cell)
from tests.plain_webs import ends_by_hand, top_at
from tests.samples import ODD_THINGS, flat_field, steep_field
from tests.test_fields import NO_FIELDS
from tests.test_flats import no_numbers
from tests.test_targets import no_targets

TWO = ("ew", "ewew", "ewew", "ew")
TWO_UP = ("ew", "nnnn", "ssss", "ew")
TWO_MORE = ("ew", "newn", "sews", "ew")
FIELD = flat_field(9, 9)


@functools.lru_cache(maxsize=None)
def some_floors():
    """FLOORS of all ORDERS: all of 1 and 2, some of each other one."""
    chance = random.Random("floors")
    found = list(floors_by_hand(1)) + list(floors_by_hand(2)) + list(floors_by_hand(3))[::5]
    for order in range(4, 9):
        floor = lowest_floor(order)
        found += [floor, highest_floor(order)]
        for number in range(2):
            for _ in range(12 * order):
                spot = chance.choice(list(flips_by_hand(floor)))
                floor = flips_by_hand(floor)[spot][1]
            found.append(floor)
    return found


def with_letter(floor, row, cell, letter):
    text = floor[row]
    return floor[:row] + (text[:cell] + letter + text[cell + 1:],) + floor[row + 1:]


def near_floors(floor, seed):
    """What is a FLOOR but for a little."""
    chance = random.Random(f"near {seed}")
    found = []
    for row, text in enumerate(floor):
        for cell in range(len(text)):
            for letter in chance.sample(["e", "w", "n", "s", "x", "E", ".", "", "ew", "\n"], 4):
                found.append(with_letter(floor, row, cell, letter))
        found += [floor[:row] + (other,) + floor[row + 1:] for other in (text + "e", "w" + text, text[:-1], text[1:],
                                                                         "",
                                                                         text + text, text[::-1], text + " ")]
    found += [tuple(text.replace(one, other) for text in floor) for one, other in (("ew", ".."), ("n", "."), ("s", "n"),
                                                                                   ("ew", "we"), ("e", "."),
                                                                                   ("n", "x"))]
    found.append(tuple(text.replace("n", ".").replace("s", ".") for text in floor))
    found.append(tuple(text.replace("n", "x").replace("s", "x") for text in floor))
    found = [thing for thing in found if thing != floor]
    rows = list(floor)
    for _ in range(6):
        one, other = chance.randrange(len(rows)), chance.randrange(len(rows))
        rows[one], rows[other] = rows[other], rows[one]
        found.append(tuple(rows))
    return found + [floor[::-1], floor[1:] + floor[:1], floor[:1] + floor[:1] + floor[2:]]


def no_floors():
    """(place, thing) of what is no FLOOR, whatever its ORDER is."""
    wrong = [(None, thing) for thing in ODD_THINGS if thing != ("a", "b")]
    wrong += [(None, thing) for thing in (list(TWO), TWO[:3], TWO + TWO[:1], ("ew",), (), "ewew", ("ew", b"ew"),
                                          ("ew", None), ("ew", ["e", "w"]), ("ew", ("e", "w")), ("ew",) * 18,
                                          lowest_floor(8) + ("ew", "ew"), ("ew", Text("ew")), Rows(TWO))]
    return wrong + [((0, 0), ("", "")), ((0, 2), ("ewe", "ew")), ((1, 0), ("ew", "we")), ((0, 0), ("we", "ew")),
                    ((0, 0), ("nn", "ew")), ((0, 0), ("e", "ew")), ((0, 0), ("a", "b"))]


class Text(str):
    """A text that is none."""


class Rows(tuple):
    """A tuple that is none."""


class Which(unittest.TestCase):
    def test_by_hand(self):
        for floor in (("ew", "ew"), ("nn", "ss"), TWO, TWO_UP, TWO_MORE):
            self.assertIs(is_floor(floor), True)
        self.assertEqual([floor_order(floor) for floor in (("nn", "ss"), TWO, TWO_UP)], [1, 2, 2])
        self.assertIs(is_floor(thing=("ns", "sn")), False)

    def test_all_and_none_else(self):
        rows = ["".join(letters) for letters in itertools.product("ewns", repeat=2)]
        for texts in itertools.product(rows, rows):
            self.assertIs(is_floor(texts), texts in floors_by_hand(1))
        for floor in some_floors():
            self.assertIs(is_floor(floor), True)
            self.assertEqual(floor_order(floor=floor), len(floor) // 2)

    def test_the_first_cell_that_stands_wrong(self):
        for number, floor in enumerate(some_floors()):
            if len(floor) > 8 and number % 2 == 0:
                continue
            for thing in near_floors(floor, number):
                place = wrong_cell(thing)
                self.assertIs(is_floor(thing), place is None)
                if place is not None:
                    with self.assertRaises(BadFloor) as caught:
                        floor_order(thing)
                    self.assertEqual(caught.exception.place, place, thing)

    def test_places_by_hand(self):
        for thing, place in [
                (("ew", "ewe", "ewew", "ew"), (1, 2)), (("ew", "ewew", "ewew", "ewe"), (3, 2)),
                (("ew", "ew", "ewew", "ew"), (1, 2)), (("ew", "ewex", "ewew", "ew"), (1, 2)),
                (("ew", "xwew", "ewew", "ew"), (1, 0)), (("nn", "ewew", "ewew", "ew"), (0, 0)),
                (("ew", "newn", "ewew", "ew"), (1, 0)), (("ss", "ewew", "ewew", "ew"), (0, 0)),
                (("ew", "ewew", "ewew", "nn"), (3, 0)), (("ew", "ewew", "newn", "ew"), (2, 0)),
                (("ew", "ewew", "ssss", "ew"), (2, 0)), (("nn", "", "ewew", "ew"), (0, 0))]:
            self.assertEqual(outcome(floor_order, thing), ("BadFloor", {"place": place}))

    def test_bad_floor_of_anything_wherever_it_is_handed_in(self):
        for place, thing in no_floors():
            self.assertIs(is_floor(thing), False)
            for call in (floor_order, lifts_of, lift_sum, standing, flips, floor_powers, number_by,
                         lambda floor: flipped(floor, None), lambda floor: lesser_floor(floor, None),
                         lambda floor: greater_floor(TWO, floor), lambda floor: apart_floors(floor, None),
                         lambda floor: first_flips(TWO, floor), lambda floor: first_flips(floor, None),
                         lambda floor: pairing_by(FIELD, (4, 3, 3), floor)):
                self.assertEqual(outcome(call, thing), ("BadFloor", {"place": place}))


class All(unittest.TestCase):
    def test_rising_each_once(self):
        for order in range(1, 5):
            self.assertEqual(floors(order=order), list(floors_by_hand(order)))
            self.assertEqual(len(floors(order)), flat_worth(order + 1))

    def test_too_great_beyond_4(self):
        for order in range(5, 9):
            self.assertEqual(outcome(floors, order), ("TooGreat", {"most": 4096}))

    def test_bad_order_of_anything(self):
        for thing in no_numbers(1, 8):
            for call in (floors, lowest_floor, highest_floor):
                self.assertEqual(outcome(call, thing), ("BadOrder", {}))

    def test_a_told_list_is_the_askers_own(self):
        floors(2).clear()
        self.assertEqual(len(floors(2)), 8)

    def test_lowest_and_highest(self):
        self.assertEqual(lowest_floor(2), TWO)
        self.assertEqual(highest_floor(2), ("nn", "nssn", "snns", "ss"))
        for order in range(1, 9):
            low, high = lowest_floor(order=order), highest_floor(order=order)
            self.assertIs(is_floor(low) and is_floor(high), True)
            self.assertEqual(set("".join(low)), {"e", "w"})
            self.assertEqual(set("".join(high)), {"n", "s"})


class AsPairings(unittest.TestCase):
    def floor_by_hand(self, heights, target, pairing):
        """Each cell is a KNOT: the letter tells where the TIE that ends in it leads to."""
        x, y, n = target
        letters = {}
        for one, other in pairing:
            first, second = sorted((b, a) for a, b, _ in ends_by_hand(heights, one, other))
            words = "ew" if first[0] == second[0] else "ns"
            for (b, a), letter in zip((first, second), words):
                letters[2 * (a - x) + 1, 2 * (b - y) + 1] = letter
        return texts_of(n - 1, letters)

    def test_there_and_back_all_pairings_anywhere(self):
        for wide, high in [(3, 3), (5, 4), (6, 7), (8, 8)]:
            field = flat_field(wide, high)
            for x, y in places_of(field[0]):
                for n in range(2, min(top_at(field[0], x, y), 4) + 1):
                    if (x + y + n) % 2 == 0:
                        every = pairings(field, (x, y, n))
                        told = [floor_of(field=field, target=(x, y, n), pairing=pairing) for pairing in every]
                        self.assertEqual(sorted(told), list(floors_by_hand(n - 1)))
                        for pairing, floor in list(zip(every, told))[::1 if n < 4 else 7]:
                            self.assertEqual(floor, self.floor_by_hand(field[0], (x, y, n), pairing))
                            self.assertEqual(pairing_by(field=field, target=(x, y, n), floor=floor), pairing)

    def test_orders_4_and_5(self):
        field = flat(11, 11)
        for target in [(4, 5, 5), (5, 5, 6)]:
            order = order_of(field, target)
            for floor in [lowest_floor(order), highest_floor(order)] + [by_number(order, 7 ** k) for k in range(4)]:
                pairing = pairing_by(field, target, floor)
                self.assertEqual(floor_of(field, target, pairing), floor)
                self.assertEqual(self.floor_by_hand(field[0], target, pairing), floor)
        self.assertEqual(floor_of(field, (4, 5, 5), nth_pairing(field, (4, 5, 5), 0)),
                         self.floor_by_hand(field[0], (4, 5, 5), nth_pairing(field, (4, 5, 5), 0)))

    def test_what_a_floor_tells_of_its_pairing(self):
        for target in [(4, 4, 2), (4, 3, 3), (4, 4, 4)]:
            x, y, n = target
            for pairing in pairings(FIELD, target):
                floor = floor_of(FIELD, target, pairing)
                lying = n * (n - 1) - standing(floor)
                self.assertEqual(rule_counts(FIELD, target, pairing), (lying // 2, standing(floor) // 2))
                powers = dict(powers_of(FIELD, target, pairing))
                self.assertEqual(floor_powers(floor=floor),
                                 in_rows(n - 1, lambda u, v: powers.get((x + u, y + v), 0)))
                self.assertEqual({spot for spot, _ in flips(floor)},
                                 {(a - x, b - y) for (a, b), power in powers.items() if power == -1})

    def test_refused_in_order(self):
        floor = lowest_floor(2)
        pairing = pairing_by(FIELD, (4, 3, 3), floor)
        for call in (lambda field, target, last: floor_of(field, target, last),
                     lambda field, target, last: pairing_by(field, target, last)):
            for place, thing in NO_FIELDS:
                self.assertEqual(outcome(call, thing, None, None), ("BadField", {"place": place}))
            for field in (raised(FIELD, (4, 4)), upside_down(FIELD), mirrored(flat_field(6, 5)), steep_field(3, 3, 5)):
                self.assertEqual(outcome(call, field, None, None), ("BadField", {"place": "flat"}))
            for thing in no_targets((4, 3, 3)) + [(4, 3, 1), (4, 4, 0), (0, 0, 0), (1, 0, 1)]:
                if thing != (4, 3, 3):
                    self.assertEqual(outcome(call, FIELD, thing, None), ("BadTarget", {}))
        self.assertEqual(outcome(floor_of, FIELD, (4, 3, 3), pairing[:-1]), ("BadPairing", {"number": 5}))
        self.assertEqual(outcome(floor_of, FIELD, (4, 3, 3), None), ("BadPairing", {"number": None}))
        self.assertEqual(outcome(floor_of, FIELD, (4, 3, 3), floor), ("BadPairing", {"number": 0}))
        self.assertEqual(outcome(pairing_by, FIELD, (4, 3, 3), ("ew", "ew", "ew", "ew")),
                         ("BadFloor", {"place": (1, 2)}))
        for order in (1, 3, 8):
            self.assertEqual(outcome(pairing_by, FIELD, (4, 3, 3), lowest_floor(order)), ("BadFloor", {"place": None}))
        self.assertRaises(BadPairing, floor_of, FIELD, (4, 4, 4), pairing)


class Lifts(unittest.TestCase):
    def test_by_hand(self):
        self.assertEqual(lifts_of(TWO), ((0,), (0, 0, 0), (0,)))
        self.assertEqual(lifts_of(TWO_UP), ((0,), (1, 0, 1), (0,)))
        self.assertEqual(lifts_of(TWO_MORE), ((0,), (1, 1, 1), (0,)))
        self.assertEqual(floor_by(lifts=((0,), (1, 1, 1), (0,))), TWO_MORE)
        self.assertEqual(lifts_of(("nn", "ss")), ((1,),))

    def test_there_and_back(self):
        for floor in some_floors():
            order = len(floor) // 2
            lifts = lifts_of(floor=floor)
            self.assertEqual(lifts, in_rows(order, lambda u, v: lift_by_hand(floor, u, v)))
            self.assertIsNone(odd_lift(lifts))
            self.assertEqual(floor_by(lifts), floor)
            self.assertEqual(lift_sum(floor=floor), sum(map(sum, lifts)))
            self.assertEqual(standing(floor=floor), "".join(floor).count("s"))

    def test_highest_and_lowest(self):
        for order in range(1, 9):
            self.assertEqual(lifts_of(lowest_floor(order)), in_rows(order, lambda u, v: 0))
            self.assertEqual(lifts_of(highest_floor(order)),
                             in_rows(order, lambda u, v: (order + 1 - abs(u) - abs(v)) // 2))
            self.assertEqual(lift_sum(highest_floor(order)), order * (order + 1) * (2 * order + 1) // 6)
            self.assertEqual(standing(highest_floor(order)), order * (order + 1))

    def test_each_rows_of_numbers_are_those_of_one_floor_or_at_odds(self):
        shapes = {1: [range(-1, 3)], 2: [range(-1, 3)] * 5}
        for order, ranges in shapes.items():
            found = []
            for numbers in itertools.product(*ranges):
                told = dict(zip(inner_spots(order), numbers))
                lifts = in_rows(order, lambda u, v: told[u, v])
                place = odd_lift(lifts)
                if place is None:
                    found.append(floor_by(lifts))
                else:
                    self.assertEqual(outcome(floor_by, lifts), ("BadLifts", {"place": place}))
            self.assertEqual(sorted(found), list(floors_by_hand(order)))

    def test_one_lift_more_or_less(self):
        for floor in some_floors():
            order = len(floor) // 2
            lifts = lifts_of(floor)
            spots = inner_spots(order)
            for (u, v), step in itertools.product(spots[::1 if order < 4 else 5], (-2, -1, 1, 2, 10 ** 50)):
                more = {(u, v): step}
                told = in_rows(order, lambda a, b: lifts[b + order - 1][a + order - 1 - abs(b)] + more.get((a, b), 0))
                place = odd_lift(told)
                if place is None:
                    self.assertEqual(lifts_of(floor_by(told)), told)
                else:
                    self.assertEqual(outcome(floor_by, told), ("BadLifts", {"place": place}))

    def test_bad_lifts_none(self):
        wrong = ODD_THINGS + [((0,), (0, 0, 0)), ((0,), (0, 0), (0,)), [(0,)], ([0],), ((0.0,),), ((True,),),
                              ((None,),),
                              ((0,), (0, 0, 0), (False,)), ((0,),) * 3, ((0, 0, 0),), ((), (0,), ()), (((0,),),),
                              ((0,), (0, 0, 0), (0,), ()), lifts_of(lowest_floor(8)) + ((), ()),
                              in_rows(9, lambda u, v: 0), ((0,), [0, 0, 0], (0,)), ("0",), ((9,), (9, 9, 9), ("9",)),
                              ((0,), (0, 0, 0), (0, 0))]
        for thing in wrong:
            self.assertEqual(outcome(floor_by, thing), ("BadLifts", {"place": None}), thing)
        self.assertEqual(outcome(floor_by, ((2,),)), ("BadLifts", {"place": (0, 0)}))
        self.assertEqual(outcome(floor_by, ((-1,),)), ("BadLifts", {"place": (0, 0)}))

    def test_as_many_by_lifts_and_standing_as_told(self):
        for order in range(1, 5):
            found = {}
            for floor in floors(order):
                key = (lift_sum(floor), standing(floor) // 2)
                self.assertEqual(standing(floor) % 2, 0)
                found[key] = found.get(key, 0) + 1
            self.assertEqual(found, told_floors(order))

    def test_a_rise_makes_a_worth_q_times_as_great(self):
        field = leaning(flat(9, 9), 4, (2, 1))
        for floor in floors(2):
            above, below = pairing_worth(field, (4, 3, 3), pairing_by(field, (4, 3, 3), floor))
            low, one = pairing_worth(field, (4, 3, 3), pairing_by(field, (4, 3, 3), lowest_floor(2)))
            self.assertEqual(above * one, low * below * 2 ** lift_sum(floor))


class Flips(unittest.TestCase):
    def test_by_hand(self):
        self.assertEqual(flips(TWO), (((-1, 0), "rise"), ((1, 0), "rise")))
        self.assertEqual(flips(("ew", "ew")), (((0, 0), "rise"),))
        self.assertEqual(flips(("nn", "ss")), (((0, 0), "fall"),))
        self.assertEqual(dict(flips(TWO_UP))[(0, 0)], "rise")
        self.assertEqual(flipped(TWO_UP, (0, 0)), TWO_MORE)
        self.assertEqual(flipped(flipped(TWO, (-1, 0)), (1, 0)), TWO_UP)

    def test_all_and_what_they_lead_to(self):
        for floor in some_floors():
            order = len(floor) // 2
            every = flips_by_hand(floor)
            self.assertEqual(flips(floor=floor), tuple((spot, word) for spot, (word, _) in every.items()))
            for spot, (word, behind) in every.items():
                self.assertEqual(flipped(floor=floor, spot=spot), behind)
                self.assertEqual(flipped(behind, spot), floor)
                step = 1 if word == "rise" else -1
                lifts, told = lifts_of(floor), lifts_of(behind)
                self.assertEqual(told, in_rows(order, lambda a, b: lifts[b + order - 1][a + order - 1 - abs(b)]
                                               + step * ((a, b) == spot)))

    def test_no_flip_with_the_very_thing(self):
        for floor in some_floors()[::3]:
            order = len(floor) // 2
            every = flips_by_hand(floor)
            near = [(u, v) for u in range(-order - 1, order + 2) for v in range(-order - 1, order + 2)]
            odd = ODD_THINGS + [(0.0, 0), (0, False), (True, 0), [0, 0], (0,), (0, 0, 0), ((0, 0), (0, 0)),
                                (10 ** 999, 0),
                                ("0", 0), Rows((0, 0))]
            for thing in near + odd:
                if type(thing) is not tuple or thing not in every or any(type(part) is not int for part in thing):
                    with self.assertRaises(NoFlip) as caught:
                        flipped(floor, thing)
                    self.assertIs(caught.exception.spot, thing)


class Apart(unittest.TestCase):
    def pairs(self):
        found = [(one, other) for order in (1, 2) for one in floors_by_hand(order) for other in floors_by_hand(order)]
        three = floors_by_hand(3)
        return found + [(three[a], three[b]) for a, b in ((0, 63), (63, 0), (5, 40), (33, 12), (20, 20), (61, 7))]

    def test_as_many_flips_as_it_takes(self):
        for one, other in self.pairs():
            many = ways_by_flips(one)[other]
            self.assertEqual(apart_floors(one=one, other=other), many)
            row = first_flips(one=one, other=other)
            self.assertEqual(row, first_flips_by_hand(one, other))
            self.assertEqual(len(row), many)

    def test_far_apart(self):
        some = [floor for floor in some_floors() if len(floor) > 6]
        for one, other in itertools.product(some, some):
            if len(one) == len(other):
                floor = one
                row = first_flips(one, other)
                self.assertEqual(len(row), apart_floors(one, other))
                for spot in row:
                    floor = flipped(floor, spot)
                self.assertEqual(floor, other)
        for order in range(1, 9):
            low, high = lowest_floor(order), highest_floor(order)
            self.assertEqual(apart_floors(low, high), order * (order + 1) * (2 * order + 1) // 6)
            floor = low
            for spot in first_flips(low, high):
                # All of them rise, and the first that can comes first.
                self.assertEqual(spot, next(place for place, word in flips(floor) if word == "rise"))
                floor = flipped(floor, spot)
            self.assertEqual(floor, high)

    def test_lesser_and_greater(self):
        for one, other in self.pairs() + [(lowest_floor(8), highest_floor(8)), (some_floors()[-1], some_floors()[-2])]:
            order = len(one) // 2
            lifts, others = lifts_of(one), lifts_of(other)
            for call, told in ((lesser_floor, min), (greater_floor, max)):
                self.assertEqual(lifts_of(call(one=one, other=other)),
                                 tuple(tuple(map(told, row, row_other)) for row, row_other in zip(lifts, others)))
            self.assertEqual(apart_floors(one, other),
                             sum(abs(lifts[v + order - 1][u + order - 1 - abs(v)]
                                     - others[v + order - 1][u + order - 1 - abs(v)]) for u, v in inner_spots(order)))

    def test_refused_in_order(self):
        wrong = ("ew", "ewe", "ewew", "ew")
        for call in (lesser_floor, greater_floor, apart_floors, first_flips):
            self.assertEqual(outcome(call, wrong, None), ("BadFloor", {"place": (1, 2)}))
            self.assertEqual(outcome(call, lowest_floor(1), wrong), ("BadFloor", {"place": (1, 2)}))
            self.assertEqual(outcome(call, lowest_floor(1), TWO), ("BadFloor", {"place": None}))
            self.assertEqual(outcome(call, TWO, lowest_floor(8)), ("BadFloor", {"place": None}))


class Powers(unittest.TestCase):
    def test_by_the_words(self):
        for floor in some_floors():
            order = len(floor) // 2
            every = flips_by_hand(floor)
            told = floor_powers(floor)
            self.assertEqual({(u, v) for u, v in inner_spots(order)
                              if told[v + order - 1][u + order - 1 - abs(v)] == -1}, set(every))
            self.assertLessEqual({power for row in told for power in row}, {-1, 0, 1})
        self.assertEqual(floor_powers(TWO), ((0,), (-1, 1, -1), (0,)))
        self.assertEqual(floor_powers(("ew", "ew")), ((-1,),))
        self.assertEqual(floor_powers(TWO_UP), ((0,), (-1, -1, -1), (0,)))


class Numbers(unittest.TestCase):
    def test_as_they_rise(self):
        for order in range(1, 5):
            every = floors(order)
            self.assertEqual([by_number(order=order, number=number) for number in range(len(every))], every)
            self.assertEqual([number_by(floor=floor) for floor in every], list(range(len(every))))

    def test_there_and_back_up_to_6(self):
        for order in (5, 6):
            many = flat_worth(order + 1)
            numbers = sorted({0, 1, many - 1, many - 2, many // 2, many // 2 - 1} | {many * k // 13 for k in range(13)})
            told = [by_number(order, number) for number in numbers]
            self.assertEqual(told, sorted(told))
            self.assertTrue(all(is_floor(floor) and floor_order(floor) == order for floor in told))
            self.assertEqual([number_by(floor) for floor in told], numbers)
            self.assertEqual(by_number(order, 0), lowest_floor(order))

    def test_refused(self):
        self.assertEqual(MOST_NUMBERED, 6)
        for thing in no_numbers(1, 6):
            self.assertEqual(outcome(by_number, thing, 0), ("BadOrder", {}))
        for order in range(1, 7):
            for thing in no_numbers(0, flat_worth(order + 1) - 1):
                self.assertEqual(outcome(by_number, order, thing), ("BadOrder", {}))
        for order in (7, 8):
            self.assertEqual(outcome(number_by, lowest_floor(order)), ("BadOrder", {}))
            self.assertEqual(outcome(number_by, lowest_floor(order)[:-1] + ("we",)),
                             ("BadFloor", {"place": (2 * order - 1, 0)}))


if __name__ == "__main__":
    unittest.main()
