"""Points 71 and 72: all errors and all limits, also those of later sections."""

import unittest

from lampstays import bounds, errors

FIELDS = {
    "BadBatch": (), "BadLamp": ("value",), "BadLog": ("error",), "BadMotions": ("error",),
    "BadSighting": ("index",), "BadText": ("index",), "Busy": (), "NoCount": ("value",),
    "NoExplanation": ("index",), "NoIndex": ("index",), "NoKind": ("value",), "NoMinute": ("value",),
    "NoVersion": ("version",), "NotLater": ("minute",), "NothingToUndo": (), "OtherCount": ("count",),
    "Rejected": ("index",), "TooBright": ("index",), "TooLarge": ("limit",), "TooMany": ("limit",),
    "TooManyEdits": (), "Unexplained": ("reason",),
}

LIMITS = {
    "MAX_MINUTE": 1000000000, "LIMIT": 2000000000, "MAX_LAMPS": 6, "MAX_STRETCHES": 60, "MAX_RUNS": 360,
    "SMALL": 300, "LISTED": 2000, "BATCH": 20, "HISTORY": 30,
}


class Errors(unittest.TestCase):
    def test_every_error_is_a_direct_subclass_of_lamp_error(self):
        self.assertEqual(errors.LampError.__bases__, (ValueError,))
        for name in FIELDS:
            self.assertEqual(getattr(errors, name).__bases__, (errors.LampError,), name)
            self.assertEqual(getattr(errors, name).__module__, "lampstays.errors")

    def test_there_are_no_other_errors(self):
        classes = [name for name, value in vars(errors).items() if isinstance(value, type)]
        self.assertEqual(sorted(classes), sorted([*FIELDS, "LampError"]))

    def test_every_error_keeps_the_very_object(self):
        for name, fields in FIELDS.items():
            for value in (None, True, 7, 10 ** 99, "a", [1, [2]], {"a": [3]}, (0, "run"), object()):
                kept = [value for _ in fields]
                error = getattr(errors, name)(*kept)
                self.assertEqual(list(vars(error)), list(fields), name)
                for field in fields:
                    self.assertIs(getattr(error, field), value)

    def test_every_error_can_be_created_by_the_names_of_its_arguments(self):
        for name, fields in FIELDS.items():
            error = getattr(errors, name)(**{field: 7 for field in fields})
            self.assertEqual(vars(error), {field: 7 for field in fields})

    def test_arguments_that_are_missing_or_too_many(self):
        for name, fields in FIELDS.items():
            if fields:
                self.assertRaises(TypeError, getattr(errors, name))
                self.assertRaises(TypeError, getattr(errors, name), 1, 2)

    def test_each_is_caught_by_its_own_class_alone(self):
        for name, fields in FIELDS.items():
            error = getattr(errors, name)(*[1 for _ in fields])
            caught = [other for other in FIELDS if isinstance(error, getattr(errors, other))]
            self.assertEqual(caught, [name])
            self.assertIsInstance(error, ValueError)


class Bounds(unittest.TestCase):
    def test_every_limit(self):
        for name, value in LIMITS.items():
            self.assertEqual(getattr(bounds, name), value)
            self.assertIs(type(getattr(bounds, name)), int)

    def test_there_are_no_other_limits(self):
        self.assertEqual(sorted(name for name in vars(bounds) if name.isupper()), sorted(LIMITS))


if __name__ == "__main__":
    unittest.main()
