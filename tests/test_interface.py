"""Point 73: each name exists as written, in the file under which it stands."""

import inspect
import unittest

import lampstays
from lampstays import lamps

FUNCTIONS = {
    "is_lamp": "(value)", "motions_error": "(value)", "log_error": "(value)", "is_motions": "(value)",
    "is_log": "(value)", "log_of": "(lamp, motions)", "motions_of": "(value)", "count_motions": "(motions)",
    "motion_at": "(motions, index)", "motions_before": "(motions, minute)", "each_motion": "(motions, *, start=0)",
}


class Interface(unittest.TestCase):
    def test_functions(self):
        for name, arguments in FUNCTIONS.items():
            function = getattr(lamps, name)
            self.assertTrue(inspect.isfunction(function))
            self.assertEqual(function.__module__, "lampstays.lamps")
            self.assertEqual(str(inspect.signature(function)), arguments)

    def test_arguments_may_be_passed_as_the_document_names_them(self):
        motions = ((3, 2, 3),)
        self.assertEqual(list(lamps.each_motion(motions, start=2)), [7])
        with self.assertRaises(TypeError):
            lamps.each_motion(motions, 2)

    def test_each_motion_is_a_generator(self):
        self.assertTrue(inspect.isgeneratorfunction(lamps.each_motion))

    def test_log_has_its_methods_itself(self):
        self.assertEqual(lamps.Log.__module__, "lampstays.lamps")
        for name in ("init", "contains", "getitem", "call", "or", "and", "len", "bool", "eq", "str", "iter"):
            self.assertIn("__{}__".format(name), vars(lamps.Log))
        for name in ("stretches", "lit"):
            self.assertIsInstance(vars(lamps.Log)[name], property)
        self.assertEqual(str(inspect.signature(lamps.Log)), "(value)")

    def test_the_package(self):
        self.assertEqual(lampstays.__name__, "lampstays")


if __name__ == "__main__":
    unittest.main()
