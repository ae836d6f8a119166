"""Each error class: its fields, its base classes, and that it is none of the others."""

import unittest

from maybegone import errors

# The fields of each class, in order.
FIELDS = {
    "GoneError": (), "BadText": ("line",), "BadProgram": ("error",), "BadPauses": ("value",),
    "BadInputs": ("value",), "BadPlan": ("value",), "NoMake": ("place",), "NoWeak": ("place",),
    "PauseThere": ("place",), "NoPause": ("place",), "NoPauses": (), "NoQuestion": (), "TooMany": (),
    "Clash": ("steps",), "Unsure": ("inputs", "plan"), "Busy": (), "TooManyEdits": (),
    "NothingToUndo": (), "NothingToRedo": (), "BadEdits": (), "BadEdit": ("index",), "Rejected": ("index",),
    "NoPlace": ("place",), "NoVersion": ("value",),
}
LOOKUPS = ("NoPlace", "NoVersion")


def class_of(name):
    return getattr(errors, name)


def made(name, values):
    return class_of(name)(*values[:len(FIELDS[name])])


class Errors(unittest.TestCase):

    def test_all_are_defined_in_this_file(self):
        for name in FIELDS:
            with self.subTest(name):
                self.assertEqual(class_of(name).__module__, "maybegone.errors")
                self.assertEqual(class_of(name).__name__, name)

    def test_no_other_errors_are_there(self):
        there = [name for name in vars(errors) if isinstance(class_of(name), type)]
        self.assertEqual(sorted(there), sorted(FIELDS))

    def test_fields_are_the_very_values(self):
        values_of_two = ([[1], {"a": (2,)}], [None, True], [(), "x"], [10 ** 59, -3], [["y"], {1: 2}])
        for name, fields in FIELDS.items():
            for values in values_of_two:
                with self.subTest(name, values=values):
                    error = made(name, values)
                    for field, value in zip(fields, values):
                        self.assertIs(getattr(error, field), value)
                    self.assertEqual(sorted(vars(error)), sorted(fields))

    def test_fields_by_keyword(self):
        for name, fields in FIELDS.items():
            with self.subTest(name):
                error = class_of(name)(**{field: [field] for field in fields})
                self.assertEqual([getattr(error, field) for field in fields], [[field] for field in fields])

    def test_number_of_fields(self):
        for name, fields in FIELDS.items():
            if fields:
                with self.subTest(name):
                    self.assertRaises(TypeError, class_of(name))
                    self.assertRaises(TypeError, class_of(name), *range(len(fields) + 1))

    def test_bases(self):
        for name in FIELDS:
            with self.subTest(name):
                if name in LOOKUPS:
                    self.assertTrue(issubclass(class_of(name), LookupError))
                    self.assertFalse(issubclass(class_of(name), ValueError))
                else:
                    self.assertTrue(issubclass(class_of(name), errors.GoneError))
                    self.assertTrue(issubclass(class_of(name), ValueError))
                    self.assertFalse(issubclass(class_of(name), LookupError))

    def test_none_is_another_one(self):
        for one in FIELDS:
            for other in FIELDS:
                derived = one == other or (other == "GoneError" and one not in LOOKUPS)
                with self.subTest(one, other=other):
                    self.assertEqual(issubclass(class_of(one), class_of(other)), derived)

    def test_raised_and_caught(self):
        for name in FIELDS:
            with self.subTest(name):
                error = made(name, [1, 2])
                with self.assertRaises(class_of(name)) as held:
                    raise error
                self.assertIs(held.exception, error)


if __name__ == "__main__":
    unittest.main()
