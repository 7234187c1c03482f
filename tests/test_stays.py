"""Points 25 to 30: the stays that logs allow, which log is whose, and what tells lamps apart."""

import itertools
import random
import unittest

from helpers import HUGE, WRONG, check_raises, soon, watched
from lampstays.errors import BadLamp, NoKind, OtherCount, TooLarge, Unexplained
from lampstays.facts import at_odds, verdict
from lampstays.lamps import log_of, motions_of
from lampstays.stays import (
    arrangements, both_kinds, first_difference, fits, fitting, least_example, stays_beside, stays_of,
)
from small import HIGH, KINDS, LAMPS, LOW, TOP, Window, some_lamps, some_logs, spans_at
from stories import BOTH, BOTH_LOGS, DAY, DAY_LOGS, SIX, SIX_LOGS

LIMIT = 2 * TOP
ALL = ((1, TOP),)
NO_KINDS = (None, True, 0, "", "Hold", "hold ", "on", ["hold"], ("hold",), {"hold": 1}, HUGE, ("hold", 5))


def in_ranges(ranges, stay):
    return any(low <= stay <= high for low, high in ranges)


class Fitting(unittest.TestCase):
    def test_small_logs(self):
        for window in (LOW, HIGH):
            logs = {log for lamp in LAMPS for log in window.logs_of(lamp)}
            for lamp in LAMPS:
                for log in logs:
                    self.assertIs(fits(lamp, log), log in window.logs_of(lamp), (lamp, log))
        for log in ((), ((3, 12),), ((3, 12), (20, 26))):
            expected = tuple(index for index, lamp in enumerate(LAMPS) if fits(lamp, log))
            self.assertEqual(fitting(log, *LAMPS), expected)

    def test_lamps(self):
        self.assertEqual(fitting(((3, 12),)), ())
        self.assertEqual(fitting((), *BOTH, *BOTH), (0, 1, 2, 3))
        self.assertEqual(fitting(((0, LIMIT),), ("hold", TOP), ("pulse", TOP), ("hold", TOP - 1)), (0, 1))

    def test_values_that_are_no_lamps(self):
        for value in (*WRONG, (), ("hold", 0), ("pulse", TOP + 1), ["hold", 5], ("hold", True), ("hold", 5, 5)):
            error = check_raises(self, BadLamp(value), fitting, ((3, 12),), ("hold", 5), value, None)
            self.assertIs(error.value, value)


class Ranges(unittest.TestCase):
    def check_form(self, ranges):
        self.assertIs(type(ranges), tuple)
        self.assertTrue(all(1 <= low <= high <= TOP for low, high in ranges))
        self.assertTrue(all(one[1] + 1 < other[0] for one, other in zip(ranges, ranges[1:])))

    def check(self, log, stays):
        for kind in KINDS:
            ranges = soon(lambda: stays_of(kind, log))
            self.check_form(ranges)
            for stay in stays:
                self.assertIs(in_ranges(ranges, stay), fits((kind, stay), log), (kind, stay, log))
        self.check_form(both_kinds(log))
        for stay in stays:
            both = fits(("hold", stay), log) and fits(("pulse", stay), log)
            self.assertIs(in_ranges(both_kinds(log), stay), both)

    def test_small_logs(self):
        for first, length, gap, other in itertools.product((0, 3), range(1, 15), (1, 4), range(1, 15)):
            self.check(((first, first + length),), range(1, 20))
            begin = first + length + gap
            self.check(((first, first + length), (begin, begin + other)), range(1, 20))

    def test_all_small_logs_against_all_motions(self):
        window = Window(0, 9)
        logs = {log for stay in range(1, 10) for kind in KINDS for log in window.logs_of((kind, stay)) if log}
        for log in logs:
            for kind in KINDS:
                stays = [stay for stay in range(1, 10) if log in window.logs_of((kind, stay))]
                self.assertEqual(stays_of(kind, log), spans_at(stays))

    def test_the_ends_of_the_minutes(self):
        for off in (TOP, TOP + 1, TOP + 7, TOP + 360, LIMIT - 1, LIMIT):
            for on in (0, 1, off - TOP - 1, off - TOP, off - TOP + 1, TOP - 12, TOP - 1, TOP, off - 1):
                if 0 <= on < off:
                    edges = (1, 2, 3, 4, 5, 6, 7, 12, off - TOP, off - on, TOP)
                    stays = {stay + at for stay in edges for at in (-1, 0, 1) if 1 <= stay + at <= TOP}
                    self.check(((on, off),), sorted(stays))

    def test_numbers_of_stays(self):
        self.assertEqual((stays_of("hold", ()), stays_of("pulse", ()), both_kinds(())), (ALL, ALL, ALL))
        self.assertEqual(stays_of("pulse", ((0, 2),)), ((1, 2),))
        self.assertEqual(stays_of("pulse", ((0, 60),)), (
            (1, 6), (10, 10), (12, 12), (15, 15), (20, 20), (30, 30), (60, 60)))
        self.assertEqual(stays_of("pulse", ((0, 36),)), ((1, 4), (6, 6), (9, 9), (12, 12), (18, 18), (36, 36)))
        self.assertEqual(stays_of("hold", ((0, LIMIT),)), ((TOP, TOP),))
        self.assertEqual(stays_of("pulse", ((0, LIMIT),)), ((TOP, TOP),))
        self.assertEqual(stays_of("pulse", ((2, LIMIT),)), ())
        self.assertEqual(stays_of("hold", ((TOP + 1, TOP + 2),)), ())
        self.assertEqual(stays_of("hold", ((0, 3), (TOP, TOP + 4))), ())
        self.assertEqual(stays_of("pulse", ((0, 999999937),)), ((1, 1), (999999937, 999999937)))
        ranges = soon(lambda: stays_of("pulse", ((0, 735134400),)))
        self.assertEqual(sum(high - low + 1 for low, high in ranges), 1344)

    def test_kinds(self):
        for kind in NO_KINDS:
            self.assertIs(check_raises(self, NoKind(kind), stays_of, kind, ()).value, kind)


class Beside(unittest.TestCase):
    def check(self, window, lamps, logs, sets):
        """The stays of one more lamp, with each log that it has for one of the sets, and some other logs."""
        for kind in KINDS:
            stays = {}
            for stay in range(1, 25):
                for some in sets:
                    stays.setdefault(window.log((kind, stay), some), set()).add(stay)
            for log, expected in stays.items():
                # The stays of longer logs may be greater than those that are tried.
                if log and max(off - on for on, off in log) > 20:
                    continue
                found = stays_beside(kind, log, lamps, logs)
                self.assertEqual(found, ALL if log == () else spans_at(sorted(expected)), (kind, log, lamps, logs))
            base = window.base
            for log in ((), ((base, base + 2),), ((base + 1, base + 4), (base + 5, base + 6))):
                if log not in stays:
                    self.assertEqual(stays_beside(kind, log, lamps, logs), (), (kind, log, lamps, logs))

    def test_beside_one_lamp(self):
        for window in (LOW, HIGH):
            for lamps in itertools.product(LAMPS):
                for logs, sets in window.told(lamps).items():
                    self.check(window, lamps, logs, sets)

    def test_beside_two_and_three_lamps(self):
        for window in (LOW, HIGH):
            for lamps in [*some_lamps(2, 10, seed=28), *some_lamps(3, 10, seed=29)]:
                for logs, sets in list(window.told(lamps).items())[::2]:
                    self.check(window, lamps, logs, sets)

    def test_many_lamps_that_see_the_same(self):
        choice = random.Random(30)
        for _ in range(60):
            size = choice.randrange(20, 60)
            minutes = tuple(sorted(choice.sample(range(size), size // choice.randrange(2, 5))))
            lamps = tuple((choice.choice(KINDS), choice.randrange(1, 9)) for _ in range(choice.randrange(1, 4)))
            logs = tuple(watched(lamp, minutes) for lamp in lamps)
            for kind in KINDS:
                for stay in (1, 2, 3, 5, 8, 13):
                    log = watched((kind, stay), minutes)
                    ranges = stays_beside(kind, log, lamps, logs)
                    for other in range(1, size + 20):
                        alike = verdict((*lamps, (kind, other)), (*logs, log))[0] == "motions"
                        self.assertIs(in_ranges(ranges, other), alike, (kind, other, log, lamps, logs))

    def test_without_lamps(self):
        for kind in KINDS:
            for log in ((), ((3, 12),), ((3, 12), (20, 26)), ((0, LIMIT),), ((TOP - 11, TOP + 1),),
                        ((TOP + 1, LIMIT),)):
                self.assertEqual(stays_beside(kind, log, (), ()), stays_of(kind, log))

    def test_empty_logs(self):
        for kind in KINDS:
            self.assertEqual(stays_beside(kind, (), BOTH, ((), ())), ALL)
            self.assertEqual(stays_beside(kind, ((3, 8),), BOTH, ((), ())), ())
            self.assertEqual(stays_beside(kind, (), BOTH, BOTH_LOGS), ())

    def test_long_times(self):
        self.assertEqual(soon(lambda: stays_beside("hold", DAY_LOGS[0], DAY, DAY_LOGS)), ((3, 3),))
        lamps, logs = (("pulse", 1),), (((0, TOP - 5),),)
        self.assertEqual(soon(lambda: stays_beside("hold", ((0, TOP),), lamps, logs)), ((6, 6),))
        slow, lit = (("pulse", 10 ** 6),), (((0, TOP),),)
        self.assertEqual(soon(lambda: stays_beside("hold", ((0, TOP + 500),), slow, lit)), ((501, 10 ** 6 + 500),))
        # A pulse lamp that is lit on sees nothing of the minutes between its own.
        stays = [stay for stay in range(1, 10 ** 5) if (TOP + 500) % stay == 0 and stay > 500]
        ranges = soon(lambda: stays_beside("pulse", ((0, TOP + 500),), slow, lit))
        self.assertEqual([low for low, high in ranges if low < 10 ** 5], stays)
        for number, (kind, stay) in enumerate(SIX):
            others, beside = SIX[:number] + SIX[number + 1:], SIX_LOGS[:number] + SIX_LOGS[number + 1:]
            ranges = soon(lambda: stays_beside(kind, SIX_LOGS[number], others, beside))
            self.assertTrue(in_ranges(ranges, stay))
            for low, high in ranges[:5]:
                for other in (low, high):
                    self.assertEqual(verdict((*others, (kind, other)), (*beside, SIX_LOGS[number]))[0], "motions")
                for other in (low - 1, high + 1):
                    self.assertNotEqual(verdict((*others, (kind, other)), (*beside, SIX_LOGS[number]))[0], "motions")

    def test_many_divisors_and_many_holes(self):
        length = 735134400
        lamps, logs = (("hold", 1),), (tuple((length // 60 * at, length // 60 * at + 1) for at in range(60)),)
        ranges = soon(lambda: stays_beside("pulse", ((0, length),), lamps, logs))
        self.assertEqual(ranges[0], (length // 60, length // 60))
        self.assertEqual(sum(high - low + 1 for low, high in ranges), 12)

    def test_errors(self):
        wrong = (("pulse", 3),), (((0, 4),),)
        for kind in NO_KINDS:
            self.assertIs(check_raises(self, NoKind(kind), stays_beside, kind, (), BOTH, ()).value, kind)
            check_raises(self, NoKind(kind), stays_beside, kind, (), *wrong)
        for kind in KINDS:
            check_raises(self, OtherCount(1), stays_beside, kind, (), BOTH, BOTH_LOGS[:1])
            check_raises(self, OtherCount(2), stays_beside, kind, (), (), BOTH_LOGS)
            check_raises(self, OtherCount(2), stays_beside, kind, (), wrong[0], (wrong[1][0], ()))
            for lamps, logs in (wrong, ((("hold", 5), ("hold", 2)), (((3, 12),), ((3, 5),))),
                                ((("hold", 3), ("pulse", 2)), (((0, 9),), ((0, 2), (6, 8))))):
                check_raises(self, Unexplained(verdict(lamps, logs)), stays_beside, kind, ((5, 4),), lamps, logs)


class Arranged(unittest.TestCase):
    def brute(self, window, lamps, logs):
        orders = itertools.permutations(range(len(lamps)))
        return tuple(order for order in orders if window.explaining([lamps[at] for at in order], logs))

    def test_small_logs(self):
        for window in (LOW, HIGH):
            for count, many in ((1, 30), (2, 150), (3, 100)):
                for lamps, logs in some_logs(window, count, many, seed=31 + count):
                    for order in set(itertools.permutations(range(count))):
                        mixed = tuple(logs[at] for at in order)
                        self.assertEqual(arrangements(lamps, mixed), self.brute(window, lamps, mixed))

    def test_edges(self):
        self.assertEqual(arrangements((), ()), ((),))
        self.assertEqual(arrangements(BOTH, ((), ())), ((0, 1), (1, 0)))
        self.assertEqual(arrangements(BOTH, ((), ((3, 8),))), ())
        self.assertEqual(arrangements((("pulse", 3),), (((0, 4),),)), ())

    def test_six_lamps(self):
        self.assertEqual(soon(lambda: arrangements(SIX, SIX_LOGS)), ((0, 1, 2, 3, 4, 5),))
        self.assertEqual(arrangements(SIX, (*SIX_LOGS[3:], *SIX_LOGS[:3])), ((3, 4, 5, 0, 1, 2),))
        same = soon(lambda: arrangements((("hold", 9),) * 6, SIX_LOGS[:1] * 6))
        self.assertEqual(same, tuple(itertools.permutations(range(6))))
        twice = (*SIX[:5], SIX[0])
        self.assertEqual(arrangements(twice, (*SIX_LOGS[:5], SIX_LOGS[0])), ((0, 1, 2, 3, 4, 5), (5, 1, 2, 3, 4, 0)))

    def test_errors(self):
        for lamps, logs in ((BOTH, ()), ((), BOTH_LOGS), (BOTH, BOTH_LOGS[:1]), ((("pulse", 3),), (((0, 4),), ()))):
            check_raises(self, OtherCount(len(logs)), arrangements, lamps, logs)

    def test_logs_that_are_at_odds(self):
        lamps, logs = (("hold", 5), ("hold", 2), ("hold", 9)), (((3, 12),), ((3, 5),), ((3, 16),))
        self.assertEqual((at_odds(lamps, logs), arrangements(lamps, logs)), (((0, 1), (1, 2)), ()))


class Differences(unittest.TestCase):
    def test_small_motions(self):
        window = Window(0, 7)
        for one, other in itertools.product(LAMPS, LAMPS):
            for some in window.sets:
                lit, also = ({minute for on, off in watched(lamp, some) for minute in range(on, off)}
                             for lamp in (one, other))
                expected = min(lit ^ also, default=None)
                self.assertEqual(first_difference(one, other, motions_of(some)), expected)

    def test_long_times(self):
        every = ((0, 1, TOP + 1),)
        self.assertEqual(soon(lambda: first_difference(("hold", 5), ("hold", 6), every)), TOP + 5)
        self.assertEqual(soon(lambda: first_difference(("hold", 1), ("pulse", 1), every)), None)
        self.assertEqual(soon(lambda: first_difference(("hold", TOP), ("pulse", TOP), every)), None)
        self.assertEqual(soon(lambda: first_difference(("hold", TOP), ("pulse", TOP), ((1, 1, TOP),))), TOP + 1)
        self.assertEqual(soon(lambda: first_difference(("hold", 7), ("pulse", 7), every)), 7 * (TOP // 7) + 7)
        self.assertEqual(first_difference(("hold", 7), ("pulse", 7), ()), None)

    def test_too_many_stretches(self):
        many = ((0, 3, 61),)
        for lamps in (("hold", 1), ("hold", 9)), (("hold", 9), ("pulse", 2)), (("hold", 2), ("hold", 2)):
            check_raises(self, TooLarge(60), first_difference, *lamps, many)
        check_raises(self, TooLarge(60), first_difference, ("hold", 1), ("hold", 2), ((0, 2, TOP // 2),))
        self.assertEqual(first_difference(("hold", 1), ("hold", 2), ((0, 3, 60),)), 1)

    def test_least_examples(self):
        window = Window(0, 6)
        for one, other in itertools.product(LAMPS, LAMPS):
            expected = None
            for some in window.sets:
                if expected is None and watched(one, some) != watched(other, some):
                    expected = some
            self.assertEqual(least_example(one, other), expected)

    def test_least_examples_of_long_stays(self):
        self.assertEqual(least_example(("hold", TOP), ("hold", TOP - 1)), (0,))
        self.assertEqual(least_example(("hold", TOP), ("pulse", TOP)), (0, 1))
        self.assertEqual(least_example(("pulse", TOP), ("hold", TOP)), (0, 1))
        self.assertEqual(least_example(("pulse", TOP), ("pulse", TOP)), None)
        for one, other in ((("hold", TOP), ("pulse", TOP)), (("hold", 2), ("pulse", 2)), (("hold", 3), ("pulse", 4))):
            motions = motions_of(least_example(one, other))
            self.assertNotEqual(log_of(one, motions), log_of(other, motions))


if __name__ == "__main__":
    unittest.main()
