"""Point 73: each name exists as written, in the file under which it stands."""

import importlib
import inspect
import unittest

import lampstays
from lampstays import lamps

FUNCTIONS = {
    "lamps": {
        "is_lamp": "(value)", "motions_error": "(value)", "log_error": "(value)", "is_motions": "(value)",
        "is_log": "(value)", "log_of": "(lamp, motions)", "motions_of": "(value)", "count_motions": "(motions)",
        "motion_at": "(motions, index)", "motions_before": "(motions, minute)", "each_motion": "(motions, *, start=0)",
    },
    "facts": {
        "wrong_stretches": "(lamp, log)", "sure_runs": "(lamp, log)", "quiet_spans": "(lamp, log)",
        "call_spans": "(lamp, log)", "explains": "(lamps, logs, value)", "verdict": "(lamps, logs)",
        "verdict_holds": "(lamps, logs, value)", "possible_spans": "(lamps, logs)",
        "state_of": "(lamps, logs, minute)", "at_odds": "(lamps, logs)", "explained": "(lamps, logs, *chosen)",
    },
    "stays": {
        "fits": "(lamp, log)", "fitting": "(log, *lamps)", "stays_of": "(kind, log)", "both_kinds": "(log)",
        "stays_beside": "(kind, log, lamps, logs)", "arrangements": "(lamps, logs)",
        "first_difference": "(one, other, motions)", "least_example": "(one, other)",
    },
    "fewest": {
        "gaps": "(lamps, logs)", "fewest_count": "(lamps, logs)", "most_count": "(lamps, logs)",
        "fewest_motions": "(lamps, logs)", "most_motions": "(lamps, logs)", "needs_of": "(lamps, logs)",
        "fewest_holds": "(lamps, logs, value)", "next_sure": "(lamps, logs, minute)",
        "next_possible": "(lamps, logs, minute)", "is_explanation": "(lamps, logs, value)",
        "united": "(lamps, logs, *values)", "count_explanations": "(lamps, logs)",
        "explanation_at": "(lamps, logs, index)", "explanation_index": "(lamps, logs, value)",
        "each_explanation": "(lamps, logs, *, start=0)",
    },
}

# The double-underscore methods, the plain methods, the properties and the arguments of each class.
CLASSES = {
    ("lamps", "Log"): (("init", "contains", "getitem", "call", "or", "and", "len", "bool", "eq", "str", "iter"), (),
                       ("stretches", "lit"), "(value)"),
    ("facts", "Reading"): (("init", "contains", "getitem", "call", "len", "iter"), (), ("spans", "possible"),
                           "(lamps, logs)"),
    ("stays", "Stays"): (("init", "contains", "getitem", "call", "and", "bool", "eq", "str", "iter"), ("how_many",),
                         ("days",), "(*logs)"),
}


class Interface(unittest.TestCase):
    def test_functions(self):
        for module, functions in FUNCTIONS.items():
            for name, arguments in functions.items():
                function = getattr(importlib.import_module("lampstays." + module), name)
                self.assertTrue(inspect.isfunction(function))
                self.assertEqual(function.__module__, "lampstays." + module)
                self.assertEqual(str(inspect.signature(function)), arguments)

    def test_arguments_may_be_passed_as_the_document_names_them(self):
        motions = ((3, 2, 3),)
        self.assertEqual(list(lamps.each_motion(motions, start=2)), [7])
        with self.assertRaises(TypeError):
            lamps.each_motion(motions, 2)

    def test_generators(self):
        for module, functions in FUNCTIONS.items():
            for name in functions:
                function = getattr(importlib.import_module("lampstays." + module), name)
                self.assertIs(inspect.isgeneratorfunction(function), name.startswith("each_"), name)

    def test_classes_have_their_methods_themselves(self):
        for (module, name), (doubles, methods, properties, arguments) in CLASSES.items():
            shape = getattr(importlib.import_module("lampstays." + module), name)
            self.assertEqual(shape.__module__, "lampstays." + module)
            for word in doubles:
                self.assertIn("__{}__".format(word), vars(shape))
            for word in methods:
                self.assertTrue(inspect.isfunction(vars(shape)[word]))
            for word in properties:
                self.assertIsInstance(vars(shape)[word], property)
                self.assertIsNone(vars(shape)[word].fset)
            self.assertEqual(str(inspect.signature(shape)), arguments)

    def test_the_package(self):
        self.assertEqual(lampstays.__name__, "lampstays")


if __name__ == "__main__":
    unittest.main()
