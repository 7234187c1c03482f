"""Point 73: each name exists as written, in the file under which it stands."""

import importlib
import inspect
import unittest

import lampstays
from lampstays import houses, lamps, shells

FUNCTIONS = {
    "lamps": {
        "is_lamp": "(value)", "motions_error": "(value)", "log_error": "(value)", "is_motions": "(value)",
        "is_log": "(value)", "log_of": "(lamp, motions)", "motions_of": "(value)", "count_motions": "(motions)",
        "motion_at": "(motions, index)", "motions_before": "(motions, minute)", "each_motion": "(motions, *, start=0)",
    },
    "facts": {
        "wrong_stretches": "(lamp, log)", "sure_runs": "(lamp, log)", "quiet_spans": "(lamp, log)",
        "call_spans": "(lamp, log)", "explains": "(lamps, logs, value)", "verdict": "(lamps, logs)",
        "verdict_holds": "(lamps, logs, value)", "possible_spans": "(lamps, logs)",
        "state_of": "(lamps, logs, minute)", "at_odds": "(lamps, logs)", "explained": "(lamps, logs, *chosen)",
    },
    "stays": {
        "fits": "(lamp, log)", "fitting": "(log, *lamps)", "stays_of": "(kind, log)", "both_kinds": "(log)",
        "stays_beside": "(kind, log, lamps, logs)", "arrangements": "(lamps, logs)",
        "first_difference": "(one, other, motions)", "least_example": "(one, other)",
    },
    "fewest": {
        "gaps": "(lamps, logs)", "fewest_count": "(lamps, logs)", "most_count": "(lamps, logs)",
        "fewest_motions": "(lamps, logs)", "most_motions": "(lamps, logs)", "needs_of": "(lamps, logs)",
        "fewest_holds": "(lamps, logs, value)", "next_sure": "(lamps, logs, minute)",
        "next_possible": "(lamps, logs, minute)", "is_explanation": "(lamps, logs, value)",
        "united": "(lamps, logs, *values)", "count_explanations": "(lamps, logs)",
        "explanation_at": "(lamps, logs, index)", "explanation_index": "(lamps, logs, value)",
        "each_explanation": "(lamps, logs, *, start=0)",
    },
    "foretold": {
        "light_state": "(lamps, logs, stay, minute)", "light_log": "(lamps, logs, stay)",
        "each_light": "(lamps, logs, stay, *, start=0)", "is_needless": "(lamps, logs, index)",
        "sightings_fit": "(lamps, logs, *sightings)", "first_misfit": "(lamps, logs, *sightings)",
        "is_spare": "(lamps, motions, index)", "each_spare": "(lamps, motions, *, start=0)",
        "moving_range": "(lamps, motions, index)", "thinned": "(lamps, motions)",
    },
    "texts": {
        "lamps_text": "(lamps)", "log_text": "(log)", "motions_text": "(motions)", "parse_lamps": "(value)",
        "parse_log": "(value)", "parse_motions": "(value)",
    },
}

HOUSE_DOUBLES = ("init", "len", "eq", "str", "call", "contains", "getitem", "bool")
HOUSE_METHODS = {
    "motion": "(self, minute)", "burst": "(self, first, step, count)", "fit": "(self, lamp)",
    "remove": "(self, index)", "motion_all": "(self, *minutes)", "undo": "(self)",
    "lamps": "(self, *, version=None)", "motions": "(self, *, version=None)", "logs": "(self, *, version=None)",
    "edits": "(self)", "each_change": "(self, *, start=0)", "attempt": "(self, batch, *, on_step=None)",
    "copy": "(self)",
}

# The double-underscore methods, the plain methods, the properties and the arguments of each class.
CLASSES = {
    ("lamps", "Log"): (("init", "contains", "getitem", "call", "or", "and", "len", "bool", "eq", "str", "iter"), (),
                       ("stretches", "lit"), "(value)"),
    ("facts", "Reading"): (("init", "contains", "getitem", "call", "len", "iter"), (), ("spans", "possible"),
                           "(lamps, logs)"),
    ("stays", "Stays"): (("init", "contains", "getitem", "call", "and", "bool", "eq", "str", "iter"), ("how_many",),
                         ("days",), "(*logs)"),
    ("foretold", "Light"): (("init", "contains", "getitem", "call", "len", "bool", "eq", "str", "iter"), (),
                            ("sure", "unclear"), "(lamps, logs, stay)"),
    ("houses", "House"): (HOUSE_DOUBLES, tuple(HOUSE_METHODS), ("many", "moved", "latest_minute"), "(*lamps)"),
    ("houses", "MeteredHouse"): (HOUSE_DOUBLES, tuple(HOUSE_METHODS),
                                 ("many", "moved", "latest_minute", "burnt", "cap"), "(*lamps, cap=None)"),
    ("shells", "Shell"): (("init", "call"), ("execute", "transcript"), ("last",), "(house)"),
}


class Interface(unittest.TestCase):
    def test_functions(self):
        for module, functions in FUNCTIONS.items():
            for name, arguments in functions.items():
                function = getattr(importlib.import_module("lampstays." + module), name)
                self.assertTrue(inspect.isfunction(function))
                self.assertEqual(function.__module__, "lampstays." + module)
                self.assertEqual(str(inspect.signature(function)), arguments)

    def test_arguments_may_be_passed_as_the_document_names_them(self):
        motions = ((3, 2, 3),)
        self.assertEqual(list(lamps.each_motion(motions, start=2)), [7])
        with self.assertRaises(TypeError):
            lamps.each_motion(motions, 2)

    def test_generators(self):
        for module, functions in FUNCTIONS.items():
            for name in functions:
                function = getattr(importlib.import_module("lampstays." + module), name)
                self.assertIs(inspect.isgeneratorfunction(function), name.startswith("each_"), name)

    def test_classes_have_their_methods_themselves(self):
        for (module, name), (doubles, methods, properties, arguments) in CLASSES.items():
            shape = getattr(importlib.import_module("lampstays." + module), name)
            self.assertEqual(shape.__module__, "lampstays." + module)
            for word in doubles:
                self.assertIn("__{}__".format(word), vars(shape))
            for word in methods:
                self.assertTrue(inspect.isfunction(vars(shape)[word]))
            for word in properties:
                self.assertIsInstance(vars(shape)[word], property)
                self.assertIsNone(vars(shape)[word].fset)
            self.assertEqual(str(inspect.signature(shape)), arguments)

    def test_the_methods_of_houses(self):
        for shape in (houses.House, houses.MeteredHouse):
            for name, arguments in HOUSE_METHODS.items():
                self.assertEqual(str(inspect.signature(vars(shape)[name])), arguments)
                self.assertIs(inspect.isgeneratorfunction(vars(shape)[name]), name.startswith("each_"), name)
            self.assertIsInstance(vars(shape)["after"], classmethod)
            self.assertEqual(str(inspect.signature(shape.after)), "(motions, *lamps)")
        self.assertIsInstance(vars(houses.House)["is_run"], staticmethod)
        self.assertEqual(str(inspect.signature(houses.House.is_run)), "(value)")
        self.assertEqual(vars(houses.House)["LIMIT"], 60)
        self.assertEqual(houses.MeteredHouse.__bases__, (houses.House,))

    def test_the_methods_of_shells(self):
        self.assertIsInstance(vars(shells.Shell)["fed"], classmethod)
        for call, arguments in ((shells.Shell.fed, "(house, *commands)"), (shells.Shell.execute, "(self, value)"),
                                (shells.Shell.transcript, "(self)"), (shells.Shell.__call__, "(self, value)")):
            self.assertEqual(str(inspect.signature(call)), arguments)
        self.assertIn("WORDS", vars(shells.Shell))

    def test_the_package(self):
        self.assertEqual(lampstays.__name__, "lampstays")


if __name__ == "__main__":
    unittest.main()
