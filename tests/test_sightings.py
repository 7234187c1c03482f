"""Points 48 and 49: lamps that add nothing, and sightings."""

import itertools
import random
import unittest

from helpers import HUGE, WRONG, check_raises, soon
from lampstays.errors import BadSighting, NoIndex, OtherCount, TooLarge, Unexplained
from lampstays.fewest import each_explanation
from lampstays.foretold import first_misfit, is_needless, sightings_fit
from small import HIGH, LOW, TOP, some_lamps
from stories import BOTH, BOTH_LOGS, DAY, DAY_LOGS, LONG, LONG_LOGS, PULSE, PULSE_LOGS, SIX, SIX_LOGS

LIMIT = 2 * TOP
BROKEN = (
    (BOTH, (), OtherCount(0)), ((), ((),), OtherCount(1)),
    ((("pulse", 3),), (((0, 4),),), Unexplained(("stretch", 0, 0))),
    ((("hold", 5), ("hold", 2)), (((3, 12),), ((3, 5),)), Unexplained(("sure", 0, 7, 1))),
    (PULSE, PULSE_LOGS, TooLarge(2000)),
)


def agrees(some, sighting):
    """Whether a set of minutes agrees with a sighting."""
    first, last, seen = sighting
    return any(first <= minute <= last for minute in some) is seen


def misfit_of(sets, sightings):
    """The index of the first sighting that does not fit together with those before it, None if all fit."""
    left = sets
    for index, sighting in enumerate(sightings):
        left = [some for some in left if agrees(some, sighting)]
        if not left:
            return index
    return None


class Needless(unittest.TestCase):
    def check(self, window, lamps, logs):
        for index in range(len(lamps)):
            others, beside = lamps[:index] + lamps[index + 1:], logs[:index] + logs[index + 1:]
            expected = all(window.log(lamps[index], some) == logs[index] for some in window.explaining(others, beside))
            # Without other lamps, or with one that is on behind the window, motions outside of it are not tried.
            self.assertIs(is_needless(lamps, logs, index), expected and bool(others), (lamps, logs, index))

    def test_two_lamps(self):
        for window in (LOW, HIGH):
            for lamps in some_lamps(2, 30, seed=48):
                for logs in window.told(lamps):
                    self.check(window, lamps, logs)

    def test_three_lamps(self):
        for window in (LOW, HIGH):
            for lamps in some_lamps(3, 12, seed=49):
                for logs in window.told(lamps):
                    self.check(window, lamps, logs)

    def test_four_lamps(self):
        for lamps in some_lamps(4, 6, seed=50):
            for logs in list(LOW.told(lamps))[::2]:
                self.check(LOW, lamps, logs)

    def test_one_lamp_always_adds_something(self):
        for lamps, logs in ((DAY, DAY_LOGS), (LONG, LONG_LOGS), ((("pulse", 1),), ((),)), ((("hold", TOP),), ((),)),
                            ((("hold", TOP),), (((0, LIMIT),),)), ((("pulse", TOP),), (((0, LIMIT),),))):
            self.assertIs(soon(lambda: is_needless(lamps, logs, 0)), False)

    def test_lamps_that_are_like_another_one(self):
        for lamp, log in ((("hold", 5), ((3, 12),)), (("pulse", 3), ((3, 12),)), (("hold", 1), ()), DAY + DAY_LOGS):
            for index in (0, 1):
                self.assertIs(soon(lambda: is_needless((lamp, lamp), (log, log), index)), True)

    def test_beside_empty_logs(self):
        for index in range(2):
            self.assertIs(is_needless(BOTH, ((), ()), index), True)
        for index in range(6):
            self.assertIs(is_needless(SIX, ((),) * 6, index), True)

    def test_long_times(self):
        lamps = (("hold", 3), ("hold", 5), ("hold", TOP))
        logs = (((0, TOP),), ((0, TOP + 2),), ((0, LIMIT - 3),))
        self.assertEqual([soon(lambda: is_needless(lamps, logs, index)) for index in range(3)], [False, True, True])
        self.assertEqual([is_needless(lamps[1:], logs[1:], index) for index in range(2)], [False, True])
        pulse = (("hold", 1), ("pulse", 7)), (((0, 1), (7, 8)), ((0, 14),))
        self.assertEqual([is_needless(*pulse, index) for index in range(2)], [False, True])

    def test_six_lamps(self):
        found = [soon(lambda: is_needless(SIX, SIX_LOGS, index)) for index in range(6)]
        self.assertEqual([type(value) for value in found], [bool] * 6)
        self.assertIs(is_needless((*SIX[:5], SIX[0]), (*SIX_LOGS[:5], SIX_LOGS[0]), 5), True)

    def test_indexes_that_there_are_not(self):
        for value in (*WRONG, (), 2, 3, "0", (0,), HUGE):
            self.assertIs(check_raises(self, NoIndex(value), is_needless, BOTH, BOTH_LOGS, value).index, value)
        for value in (0, None, False):
            check_raises(self, NoIndex(value), is_needless, (), (), value)

    def test_the_errors_of_logs_come_first(self):
        for lamps, logs, error in BROKEN:
            check_raises(self, error, is_needless, lamps, logs, None)
        # Too many fixed minutes of all lamps together count, also if the lamp with the index has none.
        check_raises(self, TooLarge(2000), is_needless, (("pulse", 1), ("hold", 9)), (((0, 2001),), ((0, 2009),)), 0)


class Small(unittest.TestCase):
    def some(self, window, choice):
        """Sightings around the minutes of a window, some of which touch, overlap and repeat."""
        found = []
        for _ in range(choice.randrange(6)):
            first = choice.choice(window.minutes)
            last = min(first + choice.choice((0, 0, 1, 1, 2, 3)), TOP)
            found.append((first, last, choice.random() < 0.5))
            if choice.random() < 0.2:
                found.append(choice.choice(found))
        return found

    def check(self, window, count, many, seed, step):
        choice = random.Random(seed)
        for lamps in some_lamps(count, many, seed):
            for logs, sets in list(window.told(lamps).items())[::step]:
                for _ in range(4):
                    sightings = self.some(window, choice)
                    expected = misfit_of(sets, sightings)
                    self.assertEqual(first_misfit(lamps, logs, *sightings), expected, (lamps, logs, sightings))
                    self.assertIs(sightings_fit(lamps, logs, *sightings), expected is None)

    def test_one_lamp(self):
        for window in (LOW, HIGH):
            self.check(window, 1, 30, 51, 1)

    def test_two_lamps(self):
        for window in (LOW, HIGH):
            self.check(window, 2, 40, 52, 1)

    def test_three_lamps(self):
        for window in (LOW, HIGH):
            self.check(window, 3, 25, 53, 1)

    def test_longer_logs_by_their_explanations(self):
        choice = random.Random(54)
        for lamps, logs in (((("hold", 4),), (((1, 16),),)), ((("hold", 3), ("pulse", 5)), (((0, 14),), ((0, 15),))),
                            (BOTH, BOTH_LOGS), ((("hold", 5), ("hold", 3)), (((0, 17),), ((0, 3), (5, 15))))):
            sets = list(each_explanation(lamps, logs))
            self.assertGreater(len(sets), 5)
            for _ in range(250):
                sightings = []
                for _ in range(choice.randrange(1, 7)):
                    first = choice.randrange(22)
                    sightings.append((first, first + choice.choice((0, 1, 1, 2, 4)), choice.random() < 0.4))
                expected = misfit_of(sets, sightings)
                self.assertEqual(first_misfit(lamps, logs, *sightings), expected, (lamps, logs, sightings))
                self.assertIs(sightings_fit(lamps, logs, *sightings), expected is None)


class Sightings(unittest.TestCase):
    def test_none(self):
        for lamps, logs in ((BOTH, BOTH_LOGS), ((), ()), (BOTH, ((), ())), (SIX, SIX_LOGS), (DAY, DAY_LOGS)):
            self.assertIs(sightings_fit(lamps, logs), True)
            self.assertIsNone(first_misfit(lamps, logs))

    def test_without_lamps(self):
        everything = (0, TOP)
        self.assertIs(sightings_fit((), (), (*everything, True), (5, 5, True), (0, 4, False)), True)
        self.assertIs(sightings_fit((), (), (*everything, False)), True)
        self.assertEqual(first_misfit((), (), (*everything, False), (5, 5, True)), 1)
        self.assertEqual(first_misfit((), (), (5, 9, True), (0, 7, False), (8, 8, False), (9, TOP, False)), 3)
        self.assertIsNone(first_misfit((), (), (5, 9, True), (0, 7, False), (9, TOP, False)))

    def test_empty_logs(self):
        self.assertIs(sightings_fit(BOTH, ((), ()), (0, TOP, False), (3, 3, False)), True)
        self.assertEqual(first_misfit(BOTH, ((), ()), (0, TOP, False), (0, TOP, True)), 1)

    def test_which_one_is_the_first(self):
        lamps, logs = LONG, LONG_LOGS
        self.assertEqual(first_misfit(lamps, logs, (0, 0, False)), 0)
        self.assertEqual(first_misfit(lamps, logs, (17, 17, False), (0, 0, False)), 0)
        self.assertEqual(first_misfit(lamps, logs, (18, 40, True)), 0)
        self.assertIsNone(first_misfit(lamps, logs, (18, TOP, False), (17, 40, True), (17, 17, True)))
        self.assertEqual(first_misfit(lamps, logs, (1, 1, False), (2, 2, False), (4, 4, True), (3, 3, False)), 3)
        self.assertEqual(first_misfit(lamps, logs, (3, 3, False), (1, 1, False), (2, 2, False), (0, 0, False)), 2)
        self.assertEqual(first_misfit(lamps, logs, (1, 2, True), (1, 1, False), (1, 1, False), (2, 2, False)), 3)
        many = [(5, 6, False)] * 40 + [(4, 6, True)] * 40 + [(4, 4, False), (4, 4, True), (0, 0, False)]
        self.assertEqual(first_misfit(lamps, logs, *many), 80)
        self.assertIsNone(first_misfit(lamps, logs, *many[:80]))

    def test_long_times(self):
        self.assertIs(soon(lambda: sightings_fit(DAY, DAY_LOGS, (5, 6, False), (9, TOP - 5, True))), True)
        self.assertEqual(soon(lambda: first_misfit(DAY, DAY_LOGS, (5, 6, False), (9, TOP, True), (50, 52, False))), 2)
        self.assertIs(sightings_fit(DAY, DAY_LOGS, (TOP - 3, TOP - 3, True), (TOP - 2, TOP, False)), True)
        self.assertIs(sightings_fit(DAY, DAY_LOGS, (TOP - 2, TOP, True)), False)

    def test_very_many(self):
        rooms = [(6 * at + 3, 6 * at + 4, at % 2 == 0) for at in range(1900)]
        self.assertIs(soon(lambda: sightings_fit(DAY, DAY_LOGS, *rooms)), True)
        self.assertIsNone(soon(lambda: first_misfit(DAY, DAY_LOGS, *rooms)))
        self.assertEqual(soon(lambda: first_misfit(DAY, DAY_LOGS, *rooms, (8, 8, True), (11, 13, False))), 1901)
        lamps, logs = (("pulse", 3),), (((0, 6000),),)
        seen = [(3 * at + 1, 3 * at + 2, at % 3 > 0) for at in range(1999)]
        self.assertIsNone(soon(lambda: first_misfit(lamps, logs, *seen)))
        self.assertEqual(soon(lambda: first_misfit(lamps, logs, *seen, (0, 0, True), (3000, 3000, False))), 2000)

    def test_six_lamps(self):
        first = 10 ** 6
        self.assertIs(soon(lambda: sightings_fit(SIX, SIX_LOGS, (first, first, True), (0, first - 1, False))), True)
        self.assertEqual(soon(lambda: first_misfit(SIX, SIX_LOGS, (0, first - 1, False), (first, first, False))), 1)

    def test_values_that_are_no_sightings(self):
        wrong = [value for value in WRONG]
        for value in (None, True, False, -1, TOP + 1, HUGE, "3", [3], (3,), {}):
            wrong.extend([(value, 5, True), (3, value, True)])
        wrong.extend((3, 5, value) for value in (None, 0, 1, "True", [], (True,), {}))
        wrong.extend([(), (3, 5), (3, 5, True, True), (5, 3, True), (5, 4, False), [3, 5, True], (True, True, True)])
        for value in wrong:
            for call in (sightings_fit, first_misfit):
                check_raises(self, BadSighting(0), call, LONG, LONG_LOGS, value)
                check_raises(self, BadSighting(1), call, LONG, LONG_LOGS, (0, 0, False), value, None)
                check_raises(self, BadSighting(2), call, (), (), (0, TOP, False), (0, 0, True), value)

    def test_sightings_at_the_edges(self):
        for value in ((0, 0, True), (0, TOP, True), (TOP, TOP, False), (0, 0, False), (3, 3, True)):
            self.assertIs(sightings_fit((), (), value), True)

    def test_the_errors_of_logs_come_first(self):
        for lamps, logs, error in BROKEN:
            for call in (sightings_fit, first_misfit):
                check_raises(self, error, call, lamps, logs)
                check_raises(self, error, call, lamps, logs, None)

    def test_equal_calls(self):
        sightings = [(1, 2, False), (4, 5, False), (3, 6, True)]
        before = list(sightings)
        for _ in range(2):
            self.assertIsNone(first_misfit(LONG, LONG_LOGS, *sightings))
        for order in itertools.permutations(sightings):
            self.assertIs(sightings_fit(LONG, LONG_LOGS, *order), True)
        self.assertEqual(sightings, before)


if __name__ == "__main__":
    unittest.main()
