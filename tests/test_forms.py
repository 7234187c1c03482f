"""Points 3 to 7: what is an integer, a lamp, motions and a log, and what is wrong with other values."""

import unittest

from helpers import HUGE, WRONG
from lampstays.lamps import Log, is_lamp, is_log, is_motions, log_error, log_of, motions_error

TOP = 10 ** 9
LIMIT = 2 * 10 ** 9


class Lamps(unittest.TestCase):
    def test_lamps(self):
        for kind in ("hold", "pulse"):
            for stay in (1, 2, 5, TOP - 1, TOP):
                self.assertIs(is_lamp((kind, stay)), True)

    def test_stays_that_are_none(self):
        for kind in ("hold", "pulse"):
            for stay in (0, -1, TOP + 1, HUGE, -HUGE, True, False, None, "5", [5], (5,), {"5": 5}, Log(())):
                self.assertIs(is_lamp((kind, stay)), False, stay)

    def test_kinds_that_are_none(self):
        for kind in ("", "Hold", "hold ", "on", None, True, 0, 1, ["hold"], ("hold",), {"hold": 1}, Log(())):
            self.assertIs(is_lamp((kind, 5)), False, kind)

    def test_other_values(self):
        for value in (*WRONG, ["hold", 5], ("hold", 5, 5), (5, "hold"), "ho", (("hold", 5),), {"hold": 1, "pulse": 2}):
            self.assertIs(is_lamp(value), False, value)


class Motions(unittest.TestCase):
    def check(self, value, expected):
        self.assertEqual(repr(motions_error(value)), repr(expected), value)
        self.assertIs(is_motions(value), expected is None)

    def test_motions(self):
        for value in ((), ((0, 1, 1),), ((TOP, 1, 1),), ((0, 1, TOP + 1),), ((0, TOP, 2),), ((TOP - 1, 1, 2),),
                      ((3, 2, 3), (8, 1, 1)), ((3, 2, 3), (8, 7, 9), (65, 1, 4)), ((0, 2, 5 * 10 ** 8), (TOP, 1, 1)),
                      ((1, 3, 333333334),)):
            self.check(value, None)

    def test_values_that_are_no_tuples(self):
        for value in (None, True, False, 0, 3, HUGE, "", "3+2x3", [], [(3, 2, 3)], {}, {"run": (3, 2, 3)}, Log(())):
            self.check(value, (None, "motions"))

    def test_the_number_of_runs(self):
        runs = tuple((at, 1, 1) for at in range(362))
        self.check(runs[:359], None)
        self.check(runs[:360], None)
        self.check(runs[:361], (None, "motions"))
        self.check(runs, (None, "motions"))
        self.check((None,) * 361, (None, "motions"))
        self.check((None,) * 360, (0, "run"))

    def test_items_that_are_no_runs(self):
        wrong = [
            None, True, 3, "3+2x3", "321", [3, 2, 3], {}, {"a": 1, "b": 2, "c": 3}, (), (3,), (3, 2), (3, 2, 3, 1),
            (-1, 1, 1), (TOP + 1, 1, 1), (3, 0, 2), (3, -1, 2), (3, 2, 0), (3, 2, -1), (3, 0, 0), (3, 2, 1), (3, 0, 1),
            (0, 1, TOP + 2), (1, 1, TOP + 1), (TOP, 1, 2), (0, TOP + 1, 2), (1, 3, 333333335), (-2, 1, 5),
            (HUGE, 1, 1), (3, HUGE, 2), (3, 2, HUGE), (3, HUGE, HUGE), (-HUGE, HUGE, 2), (3, HUGE, 1),
        ]
        for value in (True, False, None, "3", [3], (3,), {}, Log(())):
            wrong.extend([(value, 1, 2), (3, value, 2), (3, 1, value), (value, value, value)])
        for item in wrong:
            self.check((item,), (0, "run"))
            self.check(((0, 1, 2), item), (1, "run"))
            self.check((item, (0, 1, 2)), (0, "run"))

    def test_the_order_of_runs(self):
        self.check(((3, 2, 4), (10, 1, 1)), None)
        self.check(((3, 2, 4), (9, 1, 1)), (1, "order"))
        self.check(((3, 2, 4), (8, 1, 1)), (1, "order"))
        self.check(((3, 2, 4), (3, 2, 4)), (1, "order"))
        self.check(((3, 2, 4), (0, 1, 1)), (1, "order"))
        self.check(((0, 1, 1), (0, 1, 1)), (1, "order"))
        self.check(((0, 1, 1), (5, 1, 1), (6, 1, 5), (10, 1, 1)), (3, "order"))

    def test_the_first_error_counts(self):
        self.check(((5, 1, 1), (5, 1, 1), None), (1, "order"))
        self.check(((5, 1, 1), None, (4, 1, 1)), (1, "run"))
        self.check(((5, 1, 1), (5, 2, 1), (4, 1, 1)), (1, "run"))
        self.check(((5, 1, 1), (4, True, 1)), (1, "run"))


class Logs(unittest.TestCase):
    def check(self, value, expected):
        self.assertEqual(repr(log_error(value)), repr(expected), value)
        self.assertIs(is_log(value), expected is None)

    def test_logs(self):
        for value in ((), ((0, 1),), ((3, 8), (9, 10)), ((0, LIMIT),), ((LIMIT - 1, LIMIT),),
                      ((0, TOP), (TOP + 1, LIMIT)), ((0, 1), (2, 3), (4, 5))):
            self.check(value, None)

    def test_values_that_are_no_tuples(self):
        for value in (None, True, False, 0, 3, HUGE, "", "3-8", [], [(3, 8)], {}, {"log": (3, 8)}, Log(())):
            self.check(value, (None, "log"))

    def test_the_number_of_stretches(self):
        stretches = tuple((2 * at, 2 * at + 1) for at in range(62))
        self.check(stretches[:59], None)
        self.check(stretches[:60], None)
        self.check(stretches[:61], (None, "log"))
        self.check(stretches, (None, "log"))
        self.check((None,) * 61, (None, "log"))
        self.check((None,) * 60, (0, "stretch"))

    def test_items_that_are_no_stretches(self):
        wrong = [
            None, True, 3, "38", "3-8", [3, 8], {}, {"a": 3, "b": 8}, (), (3,), (3, 8, 9), (3, 3), (8, 3), (-1, 3),
            (-3, -1), (0, 0), (0, LIMIT + 1), (LIMIT, LIMIT + 1), (LIMIT + 5, LIMIT + 9), (3, HUGE), (HUGE, HUGE + 1),
            (-HUGE, 3),
        ]
        for value in (True, False, None, "3", [3], (3,), {}, Log(())):
            wrong.extend([(value, 8), (0, value), (value, value)])
        for item in wrong:
            self.check((item,), (0, "stretch"))
            self.check(((0, 1), item), (1, "stretch"))
            self.check((item, (0, 1)), (0, "stretch"))

    def test_the_order_of_stretches(self):
        self.check(((3, 8), (8, 10)), (1, "order"))
        self.check(((3, 8), (7, 10)), (1, "order"))
        self.check(((3, 8), (0, 2)), (1, "order"))
        self.check(((3, 8), (3, 8)), (1, "order"))
        self.check(((0, 1), (2, 3), (4, 5), (5, 6)), (3, "order"))

    def test_the_first_error_counts(self):
        self.check(((3, 8), (8, 10), None), (1, "order"))
        self.check(((3, 8), None, (4, 5)), (1, "stretch"))
        self.check(((3, 8), (8, 8), (4, 5)), (1, "stretch"))
        self.check(((3, 8), (8, LIMIT + 1)), (1, "stretch"))

    def test_the_log_of_a_lamp_is_a_log(self):
        for lamp in (("hold", TOP), ("pulse", TOP)):
            self.check(log_of(lamp, ((0, 1, TOP + 1),)), None)


if __name__ == "__main__":
    unittest.main()
