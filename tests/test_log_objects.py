"""Point 12: logs as objects."""

import itertools
import random
import unittest

from helpers import HUGE, WRONG, check_raises, soon, stretches_at
from lampstays.errors import BadLog, NoIndex, NoMinute, TooLarge
from lampstays.lamps import Log, log_error

TOP = 10 ** 9
LIMIT = 2 * 10 ** 9
SOME = ((), ((0, 1),), ((3, 8),), ((3, 8), (20, 29)), ((0, 2), (3, 4), (9, 12), (13, 30)))


def lit_minutes(log):
    return [minute for on, off in log for minute in range(on, off)]


def small_logs(size):
    """All logs of the minutes below size."""
    for bits in itertools.product((False, True), repeat=size):
        yield stretches_at([minute for minute in range(size) if bits[minute]])


class Created(unittest.TestCase):
    def test_the_log_is_kept(self):
        for log in (*SOME, ((0, LIMIT),), tuple((2 * at, 2 * at + 1) for at in range(60))):
            self.assertEqual(Log(log).stretches, log)

    def test_values_that_are_no_logs(self):
        wrong = [value for value in WRONG if value != ()]
        wrong.extend([((3, 8), (8, 9)), ((3, 8), (True, 9)), ((0, LIMIT + 1),), [(3, 8)], Log(((3, 8),)),
                      tuple((2 * at, 2 * at + 1) for at in range(61)), ((3, 8), [9, 10])])
        for value in wrong:
            check_raises(self, BadLog(log_error(value)), Log, value)
        check_raises(self, BadLog((None, "log")), Log, [])
        check_raises(self, BadLog((1, "order")), Log, ((3, 8), (8, 9)))

    def test_properties_can_only_be_read(self):
        log = Log(((3, 8),))
        with self.assertRaises(AttributeError):
            log.stretches = ()
        with self.assertRaises(AttributeError):
            log.lit = 0
        self.assertEqual([log.stretches, log.lit], [((3, 8),), 5])


class Asked(unittest.TestCase):
    def test_lit(self):
        for log in SOME:
            self.assertEqual(Log(log).lit, len(lit_minutes(log)))
        self.assertEqual(soon(lambda: Log(((0, TOP), (TOP + 1, LIMIT))).lit), LIMIT - 1)

    def test_minute_in_log(self):
        for log in SOME:
            lit = lit_minutes(log)
            for minute in range(-2, 35):
                self.assertIs(minute in Log(log), minute in lit, (log, minute))

    def test_minutes_above_the_greatest(self):
        log = Log(((TOP, TOP + 5), (LIMIT - 1, LIMIT)))
        asked = [minute in log for minute in (TOP - 1, TOP, TOP + 4, TOP + 5, LIMIT - 1, LIMIT, LIMIT + 1, HUGE)]
        self.assertEqual(asked, [False, True, True, False, True, False, False, False])

    def test_other_values_in_log(self):
        log = Log(((0, LIMIT),))
        for value in WRONG:
            self.assertIs(value in log, False, value)
        self.assertIs((0, LIMIT) in log, False)

    def test_items(self):
        for log in SOME:
            self.assertEqual([Log(log)[index] for index in range(len(log))], list(log))
            for index in (*WRONG, len(log), len(log) + 1, -len(log), (0,), "0"):
                self.assertIs(check_raises(self, NoIndex(index), lambda: Log(log)[index]).index, index)

    def test_the_next_change(self):
        for log in SOME:
            changes = [change for stretch in log for change in stretch]
            for minute in range(35):
                expected = min([change for change in changes if change > minute], default=None)
                self.assertEqual(Log(log)(minute), expected, (log, minute))

    def test_the_next_change_at_the_end(self):
        log = Log(((TOP, LIMIT),))
        self.assertEqual([log(0), log(TOP - 1), log(TOP)], [TOP, TOP, LIMIT])
        self.assertIsNone(Log(((0, TOP),))(TOP))

    def test_the_next_change_with_other_values(self):
        for minute in (*WRONG, TOP + 1, LIMIT):
            self.assertIs(check_raises(self, NoMinute(minute), Log(((3, 8),)), minute).value, minute)

    def test_len_and_bool(self):
        for log in SOME:
            self.assertEqual(len(Log(log)), len(log))
            self.assertIs(bool(Log(log)), len(log) > 0)

    def test_no_loop(self):
        for log in SOME:
            for call in (iter, list, tuple, sorted, sum):
                with self.assertRaises(TypeError):
                    call(Log(log))
            with self.assertRaises(TypeError):
                for _ in Log(log):
                    pass

    def test_equality(self):
        for one, other in itertools.product(SOME, SOME):
            self.assertIs(Log(one) == Log(other), one == other)
            self.assertIs(Log(one) != Log(other), one != other)
        for value in (*WRONG[:-1], *SOME, "", 0):
            self.assertIs(Log(()) == value, False)
            self.assertIs(Log(((3, 8), (20, 29))) == value, False)
            self.assertIs(Log(()) != value, True)

    def test_text(self):
        self.assertEqual(str(Log(())), "")
        self.assertEqual(str(Log(((0, LIMIT),))), "             0 2,000,000,000")
        self.assertEqual(str(Log(((3, 999), (1000, 1234567)))),
                         "             3           999\n         1,000     1,234,567")


class Combined(unittest.TestCase):
    def check(self, one, other):
        lit, more = lit_minutes(one), lit_minutes(other)
        either = stretches_at(sorted({*lit, *more}))
        both = stretches_at([minute for minute in lit if minute in more])
        union, common = Log(one) | Log(other), Log(one) & Log(other)
        self.assertIs(type(union), Log)
        self.assertIs(type(common), Log)
        self.assertEqual(union.stretches, either, (one, other))
        self.assertEqual(common.stretches, both, (one, other))

    def test_all_small_logs(self):
        logs = list(small_logs(6))
        for one, other in itertools.product(logs, logs):
            self.check(one, other)

    def test_larger_logs(self):
        choice = random.Random(12)
        for _ in range(200):
            one, other = (stretches_at([minute for minute in range(100) if choice.random() < share])
                          for share in (choice.random(), choice.random()))
            self.check(one, other)

    def test_stretches_that_touch_or_end_together(self):
        for one, other in ((((3, 8),), ((8, 12),)), (((8, 12),), ((3, 8),)), (((3, 8),), ((5, 8),)),
                           (((3, 8),), ((3, 5),)), (((3, 8), (9, 10)), ((8, 9),)), (((3, 8),), ((3, 8),)),
                           (((0, 20),), ((3, 8), (9, 20))), ((), ((3, 8),)), ((), ())):
            self.check(one, other)
            self.check(other, one)

    def test_long_stretches(self):
        one, other = Log(((0, TOP),)), Log(((TOP, LIMIT),))
        self.assertEqual(soon(lambda: (one | other).stretches), ((0, LIMIT),))
        self.assertEqual(soon(lambda: (one & other).stretches), ())

    def test_too_many_stretches(self):
        even = tuple((4 * at, 4 * at + 1) for at in range(60))
        self.assertEqual(len(Log(even[:30]) | Log(even[30:])), 60)
        check_raises(self, TooLarge(60), lambda: Log(even) | Log(((400, 401),)))
        check_raises(self, TooLarge(60), lambda: Log(even) | Log(tuple((on + 2, off + 2) for on, off in even)))
        self.assertEqual(len(Log(even) | Log(((237, 400),))), 60)
        touching = tuple((on + 1, off + 2) for on, off in even)
        self.assertEqual((Log(even) | Log(touching)).stretches, tuple((on, off + 2) for on, off in even))

    def test_too_many_common_stretches(self):
        one = tuple((10 * at, 10 * at + 9) for at in range(60))
        other = tuple((10 * at + 7, 10 * at + 12) for at in range(60))
        check_raises(self, TooLarge(60), lambda: Log(one) & Log(other))
        self.assertEqual(len(Log(one[:31]) & Log(other[:30])), 60)
        check_raises(self, TooLarge(60), lambda: Log(one[:31]) & Log(other[:31]))

    def test_nothing_changes(self):
        one, other = Log(((3, 8), (20, 29))), Log(((7, 9), (25, 26)))
        for _ in range(2):
            self.assertEqual((one | other).stretches, ((3, 9), (20, 29)))
            self.assertEqual((one & other).stretches, ((7, 8), (25, 26)))
        self.assertEqual([one, other], [Log(((3, 8), (20, 29))), Log(((7, 9), (25, 26)))])

    def test_other_values(self):
        for value in (None, 3, ((3, 8),), "3-8"):
            for call in (lambda: Log(()) | value, lambda: Log(()) & value, lambda: value | Log(())):
                self.assertRaises(TypeError, call)


if __name__ == "__main__":
    unittest.main()
