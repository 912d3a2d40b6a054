"""How the functions take what is handed in: names, places, rules, and all stays as it was."""

import copy
import inspect
import unittest

from hollowrise import (
    changes, coins, deeds, flats, floors, heights, letters, minors, pairings, reach, renewing, rows, tables, targets,
    texts,
    webs)
from hollowrise.errors import BadField, BadRule
from hollowrise.heights import highest
from tests.plain import ONE, outcome
from tests.samples import claims, flat_field, rows_by
from tests.test_deeds import HOLLOW, NO_RULES
from tests.test_fields import NO_FIELDS
from tests.test_heights import FEW

RAISED = highest(FEW)
UP = (("up", 1, 1),)
AT_HOLLOW = {"field": HOLLOW, "target": (1, 1, 2)}
PAIRED = (((1, 0), (1, 1)), ((1, 1), (1, 2)))
PAIRED_LEVEL = (((0, 1), (1, 1)), ((1, 1), (2, 1)))
RENEWED = {**AT_HOLLOW, "spot": (1, 1)}
ABOVE = {**AT_HOLLOW, "field": (HOLLOW[0], rows_by(3, 3, lambda x, y: (1 + x, 1)))}
POWERS = (((0, 1), 1), ((1, 1), -1), ((2, 1), 1))
SUM = (((), 1), (POWERS, 2))
WEIGHING = (1, (1, 0), (1, 1), (2, 3))
LYING = ("ew", "ew")
TWO_ROWS = (((1, 1), (2, 1)), ((0, 1), (1, 3)))
TWO_WORTHS = (((1, 1), (2, 1)), ((-1, 2), (1, 3)))
TABLE = ((0, 1), (1, 0))

# Of each function: what may rightly be handed in, by the names and in the order that the interface tells.
TOLD = {
    heights: {
        "is_heights": {"thing": FEW}, "lesser": {"one": FEW, "other": RAISED}, "greater": {"one": FEW, "other": RAISED},
        "lowest": {"heights": FEW}, "highest": {"heights": FEW}, "apart": {"one": FEW, "other": RAISED},
        "all_heights": {"heights": FEW}, "how_many_heights": {"heights": FEW},
    },
    deeds: {
        "hollows": {"field": HOLLOW}, "peaks": {"field": HOLLOW}, "raised": {"field": HOLLOW, "spot": (1, 1)},
        "lowered": {"field": (RAISED, HOLLOW[1]), "spot": (1, 1)}, "raised_all": {"field": HOLLOW, "some": ((1, 1),)},
        "lowered_all": {"field": (RAISED, HOLLOW[1]), "some": ((1, 1),)},
    },
    rows: {
        "need_row": {"field": HOLLOW, "row": UP}, "done": {"field": HOLLOW, "row": UP},
        "how_far": {"field": HOLLOW, "row": UP}, "back": {"row": UP}, "first_row": {"one": FEW, "other": RAISED},
        "how_many_rows": {"one": FEW, "other": RAISED}, "row_by": {"one": FEW, "other": RAISED, "number": 0},
        "led": {"field": HOLLOW, "heights": RAISED},
    },
    reach: {
        "span": {"field": HOLLOW, "spot": (1, 1)}, "need_height": {"field": HOLLOW, "x": 1, "y": 1, "height": 2},
        "worth_at": {"field": HOLLOW, "x": 1, "y": 1, "height": 2}, "worths_at": {"field": HOLLOW, "spot": (1, 1)},
        "Held": {"field": HOLLOW},
    },
    targets: {
        "need_target": AT_HOLLOW, "is_closed": {**AT_HOLLOW, "spot": (1, 1)}, "is_open": {**AT_HOLLOW, "spot": (1, 1)},
        "cone": AT_HOLLOW, "field_of": AT_HOLLOW, "first_rising": AT_HOLLOW,
    },
    webs: {
        "knots_at": {"field": HOLLOW, "corner": (1, 0)}, "ends": {"field": HOLLOW, "tie": PAIRED[0]},
        "is_side": {"tie": PAIRED[0]}, "web": AT_HOLLOW, "knots": AT_HOLLOW, "ties_at": {**AT_HOLLOW, "spot": (1, 1)},
    },
    pairings: {
        "is_pairing": {**AT_HOLLOW, "thing": PAIRED}, "need_pairing": {**AT_HOLLOW, "pairing": PAIRED},
        "how_many": AT_HOLLOW, "pairings": AT_HOLLOW, "nth_pairing": {**AT_HOLLOW, "number": 1},
        "number_of": {**AT_HOLLOW, "pairing": PAIRED}, "powers_of": {**AT_HOLLOW, "pairing": PAIRED},
        "rule_counts": {**AT_HOLLOW, "pairing": PAIRED}, "pairing_worth": {**AT_HOLLOW, "pairing": PAIRED},
        "worth_by_pairings": AT_HOLLOW,
    },
    renewing: {
        "at_hollow": RENEWED, "at_raised": RENEWED, "rest": {**RENEWED, "pairing": PAIRED},
        "taken": {**RENEWED, "pairing": PAIRED}, "gone_over": {**RENEWED, "pairing": PAIRED},
        "come_from": {**RENEWED, "pairing": ()}, "groups": RENEWED,
        "check_groups": {**RENEWED, "thing": [((PAIRED_LEVEL, PAIRED), ((),))]},
    },
    coins: {
        "share": {**ABOVE, "pairing": PAIRED}, "drawn": {**ABOVE, "coins": ((0, 1),)},
        "story": {**ABOVE, "coins": ((0, 1),)}, "boxes": {**ABOVE, "pairing": PAIRED},
    },
    letters: {
        "is_powers": {"thing": POWERS}, "is_sum": {"thing": SUM}, "need_powers": {"thing": POWERS},
        "need_sum": {"thing": SUM}, "sum_plus": {"one": SUM, "other": SUM}, "sum_times": {"one": SUM, "other": SUM},
        "so_often": {"thing": SUM, "number": 1}, "put_in": {"field": HOLLOW, "thing": SUM}, "sum_of": AT_HOLLOW,
        "by_powers": {**AT_HOLLOW, "powers": POWERS}, "met": {**AT_HOLLOW, "spot": (1, 1)},
        "most_met": {**AT_HOLLOW, "spot": (1, 1)},
        "weight": {"weighing": WEIGHING, "x": 2, "y": 2, "height": 2},
        "moment": {"field": HOLLOW, "powers": POWERS, "weighing": WEIGHING}, "closed_worth": AT_HOLLOW,
    },
    flats: {
        "flat": {"wide": 1, "high": 2}, "is_flat": {"field": HOLLOW}, "flat_worth": {"n": 1},
        "flat_target": {"field": HOLLOW, "spot": (1, 1)}, "order_of": AT_HOLLOW,
        "leaning": {"field": HOLLOW, "base": 1, "q": (1, 2)}, "told_floors": {"order": 1},
    },
    floors: {
        "is_floor": {"thing": LYING}, "floor_order": {"floor": LYING}, "floor_of": {**AT_HOLLOW, "pairing": PAIRED},
        "pairing_by": {**AT_HOLLOW, "floor": LYING}, "lowest_floor": {"order": 1}, "highest_floor": {"order": 1},
        "floors": {"order": 1}, "lifts_of": {"floor": LYING}, "floor_by": {"lifts": ((1,),)},
        "lift_sum": {"floor": LYING}, "standing": {"floor": LYING}, "flips": {"floor": LYING},
        "flipped": {"floor": LYING, "spot": (0, 0)}, "lesser_floor": {"one": LYING, "other": ("nn", "ss")},
        "greater_floor": {"one": LYING, "other": ("nn", "ss")}, "apart_floors": {"one": LYING, "other": ("nn", "ss")},
        "first_flips": {"one": LYING, "other": ("nn", "ss")}, "floor_powers": {"floor": LYING},
        "by_number": {"order": 1, "number": 1}, "number_by": {"floor": LYING},
    },
    minors: {
        "square": AT_HOLLOW, "inside": AT_HOLLOW, "square_worths": AT_HOLLOW, "minor_at": AT_HOLLOW,
        "is_plain": AT_HOLLOW, "minor": {"rows": TWO_ROWS}, "frame": {"size": 1}, "field_by": {"rows": TWO_WORTHS},
    },
    tables: {
        "is_table": {"thing": TABLE}, "need_table": {"thing": TABLE}, "sums": {"table": TABLE},
        "minuses": {"table": TABLE}, "crossings": {"table": TABLE}, "heights_of": {"table": TABLE},
        "table_of": {"heights": ((0, 1), (1, 0))}, "all_tables": {"size": 1}, "how_many_tables": {"size": 1},
        "meet": {"great": TABLE, "small": ((1,),)}, "small_ones": {"great": TABLE}, "great_ones": {"small": TABLE},
        "great_of": {**AT_HOLLOW, "pairing": PAIRED}, "small_of": {**AT_HOLLOW, "pairing": PAIRED},
        "pairing_of": {**AT_HOLLOW, "great": TABLE, "small": ((1,),)}, "sum_by_tables": {"rows": TWO_WORTHS},
    },
    changes: {
        "minded": AT_HOLLOW, "minding": {"field": HOLLOW, "spot": (1, 1)}, "parts": {**AT_HOLLOW, "spot": (1, 1)},
        "changed": {**AT_HOLLOW, "spot": (1, 1), "fraction": (1, 2)},
        "form_at": {"form": "x", "x": 1, "y": 2, "height": 3},
        "laden": {"field": HOLLOW, "form": "x", "fraction": (1, 2)},
        "weighed": {**AT_HOLLOW, "pairing": PAIRED, "form": "one"},
    },
    texts: {
        "fraction_text": {"fraction": (1, 2)}, "field_text": {"field": HOLLOW}, "row_text": {"row": UP},
        "pairing_text": {**AT_HOLLOW, "pairing": PAIRED}, "table_text": {"table": TABLE},
        "fraction_in": {"text": "1/2"},
        "field_in": {"text": "field 1 1\nheights 0\nworths 1"}, "row_in": {"text": "up 1 1"},
        "pairing_in": {"field": HOLLOW, "text": "target 0 1 1"}, "table_in": {"text": "+"},
    },
}
BY_RULE = {"raised", "lowered", "raised_all", "lowered_all", "done", "how_far", "led", "worth_at", "worths_at", "Held",
           "field_of", "pairing_worth", "worth_by_pairings", "check_groups", "share", "drawn", "story", "boxes",
           "sum_of",
           "flat_worth", "sum_by_tables", "parts", "changed"}
# These have another argument behind the star.
RAISED_OR_NOT = {"rest", "taken"}
# Of these some arguments, or all, have to be good ones.
OF_ANYTHING = {"is_side": (), "weight": ("weighing",), "form_at": ("form",)}
# These tell what a thing isn't, instead of refusing it, or take good ones alone.
TELLING = {"is_heights", "is_pairing", "is_side", "is_powers", "is_sum", "is_floor", "is_table"}
WRONG = [None, [], {}, [[0]], ["up", 1, 1], [("up", 1, 1)], [[1, 1]], {"up": [1]}, ([1, 1],), ((1, [1]),)]


def functions():
    return [(getattr(module, name), name, told) for module, names in TOLD.items() for name, told in names.items()]


class Arguments(unittest.TestCase):
    def test_names_and_order(self):
        for function, name, told in functions():
            taken = inspect.signature(function).parameters
            behind = ["rule"] if name in BY_RULE else ["raised"] if name in RAISED_OR_NOT else []
            self.assertEqual(list(taken), [*told, *behind], name)
            if name in RAISED_OR_NOT:
                self.assertEqual((taken["raised"].kind, taken["raised"].default),
                                 (inspect.Parameter.KEYWORD_ONLY, False))
            if name in BY_RULE:
                self.assertEqual((taken["rule"].kind, taken["rule"].default), (inspect.Parameter.KEYWORD_ONLY, ONE))
            for argument in told:
                self.assertIs(taken[argument].default, inspect.Parameter.empty)

    def test_each_is_defined_in_its_own_file(self):
        for module, names in TOLD.items():
            for name in names:
                self.assertEqual(getattr(module, name).__module__, module.__name__)

    def test_by_places_and_by_names(self):
        for function, name, told in functions():
            by_places = outcome(function, *told.values())
            self.assertEqual(by_places[0], "told", name)
            self.assertEqual(outcome(function, **told), by_places)
            self.assertEqual(outcome(function, **dict(reversed(told.items()))), by_places)
            first, *others = told
            self.assertEqual(outcome(function, told[first], **{key: told[key] for key in others}), by_places)

    def test_the_methods_of_held(self):
        told = {"do": ["deed"], "undo": [], "now": [], "journal": [], "worth_at": ["x", "y", "height"], "reckoned": []}
        for name, names in told.items():
            self.assertEqual(list(inspect.signature(getattr(reach.Held, name)).parameters), ["self"] + names)

    def test_the_rule_left_out_told_and_behind_the_star(self):
        for function, name, told in functions():
            if name in BY_RULE:
                self.assertEqual(outcome(function, **told), outcome(function, **told, rule=(1, 1)))
                with self.assertRaises(TypeError):
                    function(*told.values(), (1, 1))
            else:
                with self.assertRaises(TypeError):
                    function(**told, rule=(1, 1))

    def test_bad_rule_of_anything(self):
        for function, name, told in functions():
            if name in BY_RULE:
                for rule in NO_RULES:
                    with self.assertRaises(BadRule, msg=(name, rule)):
                        function(**told, rule=rule)

    def test_bad_field_ahead_of_all_else(self):
        for function, name, told in functions():
            if "field" in told:
                for place, thing in NO_FIELDS:
                    for wrong in (told, {key: None for key in told}):
                        names = {**wrong, "field": thing, **({"rule": None} if name in BY_RULE else {})}
                        with self.assertRaises(BadField) as caught:
                            function(**names)
                        self.assertEqual(caught.exception.place, place, name)

    def test_handed_in_is_afterwards_what_it_was(self):
        for function, name, told in functions():
            kept = copy.deepcopy(told)
            function(**told)
            self.assertEqual(told, kept)
            for key in told:
                if key in OF_ANYTHING.get(name, told):
                    for thing in WRONG:
                        wrong = {**told, key: copy.deepcopy(thing)}
                        outcome(function, **wrong)
                        self.assertEqual(wrong[key], thing)

    def test_asked_twice_it_tells_the_same(self):
        for function, _, told in functions():
            self.assertEqual(function(**told), function(**told))

    def test_a_told_list_is_the_askers_own(self):
        first = heights.all_heights(FEW)
        first.append(None)
        self.assertEqual(heights.all_heights(FEW), [FEW, RAISED])
        every = pairings.pairings(HOLLOW, (1, 1, 2))
        kept = list(every)
        every.clear()
        self.assertEqual(pairings.pairings(HOLLOW, (1, 1, 2)), kept)

    def test_a_told_list_or_dict_that_is_changed_changes_nothing(self):
        for function, _, told in functions():
            first = function(**told)
            if type(first) in (list, dict):
                kept = copy.deepcopy(first)
                first.clear()
                self.assertEqual(function(**told), kept)

    def test_what_claims_to_be_a_tuple_or_a_number_is_none(self):
        for function, name, told in functions():
            for key in OF_ANYTHING.get(name, told):
                if type(told[key]) in (tuple, int, str) and name not in TELLING:
                    for wrong in claims(told[key])[::1 if key != "field" else 17]:
                        self.assertNotEqual(outcome(function, **{**told, key: wrong})[0], "told", (name, key, wrong))

    def test_true_and_false_are_no_whole_numbers(self):
        field = (flat_field(5, 5)[0], rows_by(5, 5, lambda x, y: ONE))
        for function, name, told in functions():
            for key, thing in told.items():
                for number, flag in ((0, False), (1, True)):
                    wrong = with_flags(thing, number, flag)
                    if wrong is not None and name not in TELLING and name != "form_at":
                        self.assertNotEqual(outcome(function, **{**told, key: wrong})[0], "told", (name, key))
        self.assertIs(heights.is_heights(with_flags(FEW, 1, True)), False)
        self.assertIs(pairings.is_pairing(HOLLOW, (1, 1, 2), with_flags(PAIRED, 1, True)), False)
        self.assertIs(letters.is_powers(with_flags(POWERS, 1, True)), False)
        self.assertIs(letters.is_sum(with_flags(SUM, 1, True)), False)
        self.assertIs(tables.is_table(with_flags(TABLE, 1, True)), False)
        self.assertIs(tables.is_table(with_flags(TABLE, 0, False)), False)
        self.assertEqual(outcome(reach.worth_at, field, True, 1, 0)[0], "BadTarget")

    def test_what_is_told_may_be_handed_in_again_however_long(self):
        low = heights.lowest(flat_field(7, 7)[0])
        long_ones = rows_by(7, 7, lambda x, y: (10 ** 999 + 10 ** (7 * x + y) + 1, 1))
        field = rows.led((low, long_ones), highest(low), rule=(9, 7))
        self.assertTrue(max(worth[0] for row in field[1] for worth in row) > 10 ** 4500)
        self.assertEqual(reach.worths_at(field, (3, 2), rule=(9, 7))[-1][1], field[1][2][3])
        self.assertEqual(rows.led(field, low, rule=(9, 7))[1], long_ones)


def with_flags(thing, number, flag):
    """The thing with each such number as a flag, None where it has none."""
    if type(thing) is int:
        return flag if thing == number else None
    if type(thing) is tuple:
        parts = [with_flags(part, number, flag) for part in thing]
        if any(part is not None for part in parts):
            return tuple(old if new is None else new for old, new in zip(thing, parts))
    if type(thing) is list:
        return None if with_flags(tuple(thing), number, flag) is None else list(with_flags(tuple(thing), number, flag))
    return None


if __name__ == "__main__":
    unittest.main()
