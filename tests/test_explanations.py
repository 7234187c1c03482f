"""Points 40 to 43: explanations, their numbers, and the walk through them."""

import itertools
import unittest

from helpers import HUGE, WRONG, check_raises, soon
from lampstays.errors import NoExplanation, NoIndex, OtherCount, TooLarge, Unexplained
from lampstays.fewest import (
    count_explanations, each_explanation, explanation_at, explanation_index, gaps, is_explanation, most_count, united,
)
from lampstays.lamps import log_of, motions_of
from small import HIGH, LAMPS, LOW, TOP, some_lamps
from stories import BOTH, BOTH_LOGS, DAY, DAY_LOGS, LONG, LONG_LOGS, PULSE, PULSE_LOGS, SIX, SIX_LOGS

# A hold lamp that is lit up to just the last minute that is small enough, and others with very many explanations.
WIDE, WIDE_LOGS = (("hold", 9),), (((0, 309),),)
LOOSE, LOOSE_LOGS = (("pulse", 301),), (((0, 301),),)


def of_hold(stay, last):
    """The number of explanations of a hold lamp that is lit from 0 to this last motion."""
    ways = [1]
    for minute in range(1, last + 1):
        ways.append(sum(ways[max(0, minute - stay):minute]))
    return ways[last]


class Small(unittest.TestCase):
    def stories(self, window):
        for lamps in [*itertools.product(LAMPS), *some_lamps(2, 40, seed=40), *some_lamps(3, 25, seed=41)]:
            for logs, sets in window.told(lamps).items():
                yield lamps, logs, sorted(sets)

    def test_is_explanation(self):
        for window in (LOW, HIGH):
            for lamps, logs, sets in list(self.stories(window))[::6]:
                for some in window.sets:
                    self.assertIs(is_explanation(lamps, logs, some), some in sets)

    def test_numbers(self):
        for lamps, logs, sets in self.stories(LOW):
            self.assertEqual(count_explanations(lamps, logs), len(sets))
            self.assertEqual(list(each_explanation(lamps, logs)), sets)
            for index in {0, len(sets) // 3, len(sets) - 1}:
                self.assertEqual(explanation_at(lamps, logs, index), sets[index])
                self.assertEqual(explanation_index(lamps, logs, sets[index]), index)
                self.assertEqual(list(each_explanation(lamps, logs, start=index)), sets[index:])

    def test_every_number(self):
        for lamps, logs in ((BOTH, BOTH_LOGS), ((("hold", 3),), (((4, 16),),)),
                            ((("pulse", 4), ("hold", 2)), (((0, 8),), ((0, 6),)))):
            found = list(each_explanation(lamps, logs))
            self.assertEqual(found, sorted(set(found)))
            self.assertEqual(len(found), count_explanations(lamps, logs))
            for index, some in enumerate(found):
                self.assertIs(is_explanation(lamps, logs, some), True)
                self.assertEqual(explanation_at(lamps, logs, index), some)
                self.assertEqual(explanation_index(lamps, logs, some), index)

    def test_united(self):
        for window in (LOW, HIGH):
            for lamps, logs, sets in list(self.stories(window))[::9]:
                for one, other in zip(sets, sets[::-1]):
                    expected = tuple(sorted({*one, *other}))
                    self.assertEqual(united(lamps, logs, one, other), expected)
                    self.assertEqual(united(lamps, logs, other, one, one), expected)
                    self.assertEqual(united(lamps, logs, one), one)
                    self.assertIs(is_explanation(lamps, logs, expected), True)


class Ordinary(unittest.TestCase):
    def test_without_lamps(self):
        for value in ((), (0,), (TOP,), (0, 3, TOP), tuple(range(1000))):
            self.assertIs(is_explanation((), (), value), True)
        for value in (*WRONG, (3, 3), (5, 3), (TOP + 1,), (-1,), (3, True), [3, 5], (3, None), ((3, 1, 1),)):
            self.assertIs(is_explanation((), (), value), value == (), value)
        self.assertEqual(united((), (), (3, 5), (), (4, TOP)), (3, 4, 5, TOP))
        self.assertEqual(united((), (), ()), ())
        for call in (count_explanations, lambda lamps, logs: next(each_explanation(lamps, logs))):
            check_raises(self, TooLarge(300), call, (), ())
        for call in (explanation_at, explanation_index):
            check_raises(self, TooLarge(300), call, (), (), None)

    def test_empty_logs(self):
        lamps, logs = BOTH, ((), ())
        self.assertEqual((count_explanations(lamps, logs), explanation_at(lamps, logs, 0)), (1, ()))
        self.assertEqual((explanation_index(lamps, logs, ()), list(each_explanation(lamps, logs))), (0, [()]))
        self.assertEqual(list(each_explanation(lamps, logs, start=1)), [])
        self.assertEqual(united(lamps, logs, (), ()), ())
        self.assertIs(is_explanation(lamps, logs, ()), True)
        self.assertIs(is_explanation(lamps, logs, (3,)), False)
        check_raises(self, NoIndex(1), explanation_at, lamps, logs, 1)
        check_raises(self, NoExplanation(0), explanation_index, lamps, logs, (3,))

    def test_other_values(self):
        for value in (*WRONG, (), [3, 7, 20, 24], (3, 7, 20), (3, 7, 7, 20, 24), (7, 3, 20, 24), (3, 7, 20, TOP + 1),
                      ((3, 4, 2), (20, 4, 2)), (3, 7, 20, "24"), {"a": (3, 7, 20, 24)}, (True, 3, 7, 20, 24)):
            self.assertIs(is_explanation(BOTH, BOTH_LOGS, value), False)
            self.assertEqual(check_raises(self, NoExplanation(0), explanation_index, BOTH, BOTH_LOGS, value).index, 0)
            check_raises(self, NoExplanation(0), united, BOTH, BOTH_LOGS, value)
            check_raises(self, NoExplanation(1), united, BOTH, BOTH_LOGS, (3, 7, 20, 24), value, None)

    def test_bools_are_no_minutes(self):
        lamps, logs = (("hold", 2),), (((0, 4),),)
        self.assertEqual(list(each_explanation(lamps, logs)), [(0, 1, 2), (0, 2)])
        for value in (False, 2), (0, True, 2), (False, True, 2):
            self.assertIs(is_explanation(lamps, logs, value), False)

    def test_more_runs_than_motions_have(self):
        minutes = tuple(at * (at + 1) // 2 for at in range(1000))
        check_raises(self, TooLarge(360), motions_of, minutes)
        lamps = (("hold", 10 ** 4),)
        logs = (((0, minutes[-1] + 10 ** 4),),)
        self.assertIs(is_explanation(lamps, logs, minutes), True)
        self.assertIs(is_explanation(lamps, logs, minutes[:-1]), False)
        self.assertEqual(united(lamps, logs, minutes, minutes[::2] + minutes[-1:]), minutes)

    def test_prefixes_come_first(self):
        lamps, logs = (("pulse", 3),), (((5, 8),),)
        self.assertEqual(list(each_explanation(lamps, logs)), [(5,), (5, 6), (5, 6, 7), (5, 7)])

    def test_indexes_that_there_are_not(self):
        for value in (*WRONG, (), 16, 17, "0", [0], (0,), HUGE):
            self.assertIs(check_raises(self, NoIndex(value), explanation_at, BOTH, BOTH_LOGS, value).index, value)

    def test_long_times(self):
        self.assertIs(soon(lambda: is_explanation(DAY, DAY_LOGS, (0, TOP - 3))), False)
        self.assertIs(soon(lambda: is_explanation((("hold", TOP),), (((0, 2 * TOP),),), (0, TOP))), True)
        self.assertIs(soon(lambda: is_explanation((("hold", TOP),), (((0, 2 * TOP),),), (0, 7, TOP))), True)
        self.assertIs(soon(lambda: is_explanation((("hold", TOP - 1),), (((0, 2 * TOP - 1),),), (0, TOP))), False)
        check_raises(self, TooLarge(2000), is_explanation, PULSE, PULSE_LOGS, None)


class Numbers(unittest.TestCase):
    def test_very_many(self):
        self.assertEqual(soon(lambda: count_explanations(WIDE, WIDE_LOGS)), of_hold(9, 300))
        self.assertEqual(soon(lambda: count_explanations(LOOSE, LOOSE_LOGS)), 2 ** 300)
        self.assertGreater(len(str(of_hold(9, 300))), 80)

    def test_numbers_with_many_digits(self):
        for lamps, logs in ((WIDE, WIDE_LOGS), (LOOSE, LOOSE_LOGS)):
            count = count_explanations(lamps, logs)
            for index in (0, 1, 10 ** 50, count // 2, count // 3, count - 2, count - 1):
                some = soon(lambda: explanation_at(lamps, logs, index))
                self.assertIs(is_explanation(lamps, logs, some), True)
                self.assertEqual(soon(lambda: explanation_index(lamps, logs, some)), index)
            self.assertLess(explanation_at(lamps, logs, count // 2), explanation_at(lamps, logs, count // 2 + 1))
            check_raises(self, NoIndex(count), explanation_at, lamps, logs, count)
            self.assertEqual(explanation_at(lamps, logs, 0)[0], 0)
        self.assertEqual(explanation_at(LOOSE, LOOSE_LOGS, 0), (0,))
        self.assertEqual(explanation_at(LOOSE, LOOSE_LOGS, 2 ** 300 - 1), (0, 300))
        self.assertEqual(explanation_at(WIDE, WIDE_LOGS, 0), tuple(range(301)))

    def test_the_last_small_minute(self):
        for kind, stay in (("hold", 5), ("pulse", 301), ("pulse", 1)):
            for last, small in ((300, True), (301, False)):
                lamp = (kind, stay if stay != 301 else last + 1)
                log = ((0, last + 5),) if kind == "hold" else ((0, last + 1),)
                calls = ((count_explanations, ()), (explanation_at, (0,)), (each_explanation, ()))
                for call, args in calls:
                    if small:
                        self.assertTrue(call((lamp,), (log,), *args))
                    elif call == each_explanation:
                        check_raises(self, TooLarge(300), lambda: next(each_explanation((lamp,), (log,))))
                    else:
                        check_raises(self, TooLarge(300), call, (lamp,), (log,), *args)
                if not small:
                    check_raises(self, TooLarge(300), explanation_index, (lamp,), (log,), None)
        check_raises(self, TooLarge(300), explanation_at, (("hold", 5),), (((301, 306),),), None)
        self.assertEqual(list(each_explanation((("hold", 5),), (((300, 305),),))), [(300,)])
        self.assertEqual(count_explanations((("pulse", 5),), (((296, 301),),)), 16)
        check_raises(self, TooLarge(300), count_explanations, (("pulse", 5),), (((297, 302),),))

    def test_six_lamps(self):
        motions = ((0, 7, 20), (150, 5, 10), (250, 1, 3))
        lamps = (("hold", 8), ("pulse", 4), ("hold", 30), ("pulse", 9), ("hold", 12), ("pulse", 50))
        logs = tuple(log_of(lamp, motions) for lamp in lamps)
        count = soon(lambda: count_explanations(lamps, logs))
        for index in (0, 1, count // 2, count - 1):
            some = soon(lambda: explanation_at(lamps, logs, index))
            self.assertEqual(explanation_index(lamps, logs, some), index)
            self.assertEqual(tuple(log_of(lamp, motions_of(some)) for lamp in lamps), logs)


class Walk(unittest.TestCase):
    def test_the_first_ones_at_once(self):
        for lamps, logs in ((WIDE, WIDE_LOGS), (LOOSE, LOOSE_LOGS)):
            for start in (0, 5, 10 ** 80, count_explanations(lamps, logs) // 2):
                walk = each_explanation(lamps, logs, start=start)
                found = soon(lambda: [next(walk) for _ in range(50)])
                self.assertEqual(found, [explanation_at(lamps, logs, start + at) for at in range(50)])
                self.assertTrue(all(one < other for one, other in zip(found, found[1:])))

    def test_the_last_ones(self):
        for lamps, logs in ((WIDE, WIDE_LOGS), (LOOSE, LOOSE_LOGS)):
            count = count_explanations(lamps, logs)
            found = soon(lambda: list(each_explanation(lamps, logs, start=count - 3)))
            self.assertEqual(found, [explanation_at(lamps, logs, count - 3 + at) for at in range(3)])

    def test_a_start_that_is_too_great(self):
        for start in (16, 17, 10 ** 50, 10 ** 100 - 1):
            self.assertEqual(soon(lambda: list(each_explanation(BOTH, BOTH_LOGS, start=start))), [])
        self.assertEqual(soon(lambda: list(each_explanation(WIDE, WIDE_LOGS, start=10 ** 100 - 1))), [])

    def test_walks_left_early_and_one_within_another(self):
        expected = list(each_explanation(BOTH, BOTH_LOGS))
        found = []
        for one in each_explanation(BOTH, BOTH_LOGS):
            inner = []
            for other in each_explanation(BOTH, BOTH_LOGS, start=3):
                inner.append(other)
                if len(inner) == 5:
                    break
            self.assertEqual(inner, expected[3:8])
            found.append(one)
        self.assertEqual(found, expected)
        one, other = each_explanation(BOTH, BOTH_LOGS), each_explanation(LONG, LONG_LOGS)
        self.assertEqual([next(one), next(other), next(one)], [expected[0], tuple(range(18)), expected[1]])

    def test_all_of_a_long_walk(self):
        found = list(each_explanation(LONG, LONG_LOGS))
        self.assertEqual((len(found), found[0], found[-1]), (19513, tuple(range(18)), (0, 3, 6, 9, 12, 15, 17)))
        self.assertTrue(all(one < other for one, other in zip(found, found[1:])))
        self.assertEqual(max(len(some) for some in found), most_count(LONG, LONG_LOGS))

    def test_errors(self):
        for lamps, logs, error in (
            (BOTH, (), OtherCount(0)), ((("pulse", 3),), (((0, 4),),), Unexplained(("stretch", 0, 0))),
            (PULSE, PULSE_LOGS, TooLarge(2000)), (DAY, DAY_LOGS, TooLarge(300)), (SIX, SIX_LOGS, TooLarge(300)),
        ):
            check_raises(self, error, lambda: soon(lambda: next(each_explanation(lamps, logs))))
            check_raises(self, error, lambda: list(each_explanation(lamps, logs, start=10 ** 99)))
            for call in (explanation_at, explanation_index):
                check_raises(self, error, call, lamps, logs, None)
            check_raises(self, error, count_explanations, lamps, logs)

    def test_gaps_are_as_before(self):
        before = gaps(BOTH, BOTH_LOGS)
        list(each_explanation(BOTH, BOTH_LOGS))
        self.assertEqual(gaps(BOTH, BOTH_LOGS), before)


if __name__ == "__main__":
    unittest.main()
