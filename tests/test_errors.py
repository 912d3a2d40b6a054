"""hollowrise.errors: each class, what it stands under, its fields."""

import copy
import inspect
import pickle
import unittest

from hollowrise import errors

NEEDED = "it has to be told"

FIELDS = {
    "HollowError": {
        "BadField": ("place", None), "BadFraction": None, "BadRule": None, "BadSpot": None, "BadTarget": None,
        "BadHeights": None, "BadRow": ("number", None), "BadPairing": ("number", None), "BadPaper": ("place", None),
        "BadCoin": ("number", None), "TooGreat": ("most", NEEDED), "TooFew": ("number", NEEDED),
        "BadPowers": ("number", None), "BadSum": ("number", None), "BadWeighing": ("place", None), "BadOrder": None,
        "BadFloor": ("place", None), "BadLifts": ("place", None), "NoFlip": ("spot", NEEDED),
        "BadTable": ("place", None), "BadRows": None, "BadForm": None, "NotMet": None, "BadText": ("line", NEEDED),
        "BadName": None, "BadJob": ("number", None),
    },
    "DeedError": {"NoHollow": ("spot", NEEDED), "NoPeak": ("spot", NEEDED), "Nought": ("spot", NEEDED)},
    "BookError": {"NoName": ("name", NEEDED), "Taken": ("name", NEEDED), "Full": ("most", NEEDED), "Gone": None},
}
ABOVE = {"HollowError": ValueError, "DeedError": RuntimeError, "BookError": LookupError}
CLASSES = [(base, name, field) for base, classes in FIELDS.items() for name, field in classes.items()]


class Classes(unittest.TestCase):
    def test_no_other_class_and_each_is_defined_here(self):
        found = {name: thing for name, thing in vars(errors).items() if inspect.isclass(thing)}
        self.assertEqual(set(found), set(ABOVE) | {name for _, name, _ in CLASSES})
        for thing in found.values():
            self.assertEqual(thing.__module__, "hollowrise.errors")

    def test_the_three_stand_straight_under_pythons_own(self):
        for name, above in ABOVE.items():
            self.assertEqual(getattr(errors, name).__bases__, (above,))

    def test_each_stands_straight_under_its_base_and_no_other(self):
        for base, name, _ in CLASSES:
            self.assertEqual(getattr(errors, name).__bases__, (getattr(errors, base),), name)

    def test_none_stands_under_another_one(self):
        for _, one, _ in CLASSES:
            for _, other, _ in CLASSES:
                below = issubclass(getattr(errors, one), getattr(errors, other))
                self.assertEqual(below, one == other, (one, other))


class Fields(unittest.TestCase):
    def with_field(self):
        return [(getattr(errors, name), *field) for _, name, field in CLASSES if field]

    def test_told_by_place_and_by_name(self):
        things = ["heights", ("row", 3), (0, 0), 0, None, 10 ** 6000, [1, 2], object()]
        for kind, field, _ in self.with_field():
            for thing in things:
                self.assertIs(getattr(kind(thing), field), thing)
                self.assertIs(getattr(kind(**{field: thing}), field), thing)

    def test_none_where_left_out_or_else_needed(self):
        for kind, field, default in self.with_field():
            if default == NEEDED:
                with self.assertRaises(TypeError):
                    kind()
            else:
                self.assertIsNone(getattr(kind(), field))

    def test_one_field_each_and_no_more(self):
        for kind, field, _ in self.with_field():
            self.assertEqual(vars(kind(7)), {field: 7})
            with self.assertRaises(TypeError):
                kind(1, 2)

    def test_objects_keep_their_fields_apart(self):
        for kind, field, _ in self.with_field():
            one, other = kind(1), kind(2)
            self.assertEqual((getattr(one, field), getattr(other, field)), (1, 2))

    def test_they_have_a_text_and_are_copied_whole(self):
        for kind, field, _ in self.with_field():
            error = kind(10 ** 6000)
            self.assertTrue(str(error))
            for twin in (copy.copy(error), pickle.loads(pickle.dumps(error))):
                self.assertIs(type(twin), kind)
                self.assertEqual(getattr(twin, field), 10 ** 6000)


class Texts(unittest.TestCase):
    def test_those_without_fields_are_made_of_a_text(self):
        plain = [name for _, name, field in CLASSES if field is None] + list(ABOVE)
        self.assertEqual(len(plain), 14)
        for name in plain:
            error = getattr(errors, name)("some words")
            self.assertEqual((str(error), error.args, vars(error)), ("some words", ("some words",), {}))

    def test_raised_and_caught_by_their_bases(self):
        for base, name, field in CLASSES:
            for kind in (getattr(errors, name), getattr(errors, base), ABOVE[base]):
                with self.assertRaises(kind):
                    raise getattr(errors, name)("words" if field is None else 1)


if __name__ == "__main__":
    unittest.main()
