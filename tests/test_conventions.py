"""Points 1 to 3: nothing is changed by a call, and equal calls return equal results."""

import copy
import unittest

from helpers import WRONG
from lampstays import lamps
from lampstays.errors import LampError
from lampstays.lamps import Log

MOTIONS = ((3, 2, 3), (20, 1, 1), (24, 1, 1))
BOTH = (("hold", 5), ("pulse", 3))


def told(call, args):
    """The result of a call, or its error, in a form that can be compared."""
    try:
        return call(*args)
    except LampError as error:
        return [type(error).__name__, vars(error)]


class Conventions(unittest.TestCase):
    def calls(self):
        log = Log(((3, 8), (20, 29)))
        for value in (*WRONG, MOTIONS, (3, 5, 7), ((3, 8),), ("hold", 5), [(3, 2, 3)], [[3], [4]], {"a": [1]}, ([3],)):
            for name in ("is_lamp", "motions_error", "log_error", "is_motions", "is_log", "motions_of"):
                yield getattr(lamps, name), [value]
            yield lamps.motion_at, [MOTIONS, value]
            yield lamps.motions_before, [MOTIONS, value]
            yield lambda value: value in log, [value]
            yield lambda value: log[value], [value]
            yield log, [value]
            yield lambda value: Log(value).stretches, [value]
        for lamp in BOTH:
            yield lamps.log_of, [lamp, MOTIONS]
        yield lamps.count_motions, [MOTIONS]
        yield lambda motions: list(lamps.each_motion(motions, start=2)), [MOTIONS]

    def test_arguments_stay_as_they_are_and_equal_calls_return_equal_results(self):
        for call, args in self.calls():
            before = copy.deepcopy(args)
            first = told(call, args)
            kept = copy.deepcopy(first)
            second = told(call, copy.deepcopy(args))
            self.assertEqual(args, before)
            self.assertEqual(first, kept)
            self.assertEqual(first, second)

    def test_later_changes_of_a_list_have_no_effect(self):
        value = [(3, 2, 3)]
        found = lamps.motions_error(value)
        value.append(None)
        self.assertEqual(found, (None, "motions"))

    def test_an_object_that_could_not_be_asked_is_as_before(self):
        log = Log(((3, 8), (20, 29)))
        for call in (lambda: log[2], lambda: log(-1), lambda: log(None), lambda: log[True]):
            self.assertRaises(LampError, call)
        self.assertEqual([log, log.lit, len(log)], [Log(((3, 8), (20, 29))), 14, 2])


if __name__ == "__main__":
    unittest.main()
