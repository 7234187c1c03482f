"""Points 50 and 51: motions that could be left out or moved without a change of a log."""

import itertools
import random
import unittest

from helpers import HUGE, WRONG, check_raises, minutes_of, soon, watched
from lampstays.errors import NoIndex, TooLarge
from lampstays.foretold import each_spare, is_spare, moving_range, thinned
from lampstays.lamps import count_motions, log_of, motion_at, motions_of
from model import any_lamps
from stories import BURSTS, SIX

TOP = 10 ** 9
LAMPS = tuple((kind, stay) for kind in ("hold", "pulse") for stay in (1, 2, 3, 4, 6))
ALONE = tuple((2 * at, 1, 1) for at in range(61))


def logs(lamps, minutes):
    return [watched(lamp, minutes) for lamp in lamps]


def without(minutes, index):
    return minutes[:index] + minutes[index + 1:]


def spare_in(lamps, minutes):
    """The indexes of the motions without which all logs are the same."""
    told = logs(lamps, minutes)
    return [index for index in range(len(minutes)) if logs(lamps, without(minutes, index)) == told]


def moves_of(lamps, minutes, index, end):
    """All minutes below end to which a motion can be moved between its neighbours."""
    told = logs(lamps, minutes)
    low = minutes[index - 1] + 1 if index > 0 else 0
    high = minutes[index + 1] if index + 1 < len(minutes) else end
    return [minute for minute in range(low, high)
            if logs(lamps, minutes[:index] + (minute,) + minutes[index + 1:]) == told]


def thinned_one_by_one(lamps, minutes):
    """The minutes that are left if each motion is left out that is spare beside those that are left then."""
    left, index = minutes, 0
    while index < len(left):
        if logs(lamps, without(left, index)) == logs(lamps, left):
            left = without(left, index)
        else:
            index += 1
    return left


class Small(unittest.TestCase):
    def check(self, lamps, minutes):
        motions = motions_of(minutes)
        expected = spare_in(lamps, minutes)
        told = (lamps, minutes)
        self.assertEqual(list(each_spare(lamps, motions)), expected, told)
        self.assertEqual(thinned(lamps, motions), motions_of(thinned_one_by_one(lamps, minutes)), told)
        for index in range(len(minutes)):
            self.assertIs(is_spare(lamps, motions, index), index in expected, (told, index))
            low, high = moving_range(lamps, motions, index)
            # Beyond these minutes no lamp sees the motion together with the ones before it.
            end = minutes[-1] + 10
            self.assertEqual(list(range(low, min(high, end - 1) + 1)), moves_of(lamps, minutes, index, end),
                             (told, index))
            self.assertTrue(high < end or (high == TOP and not lamps and index == len(minutes) - 1))

    def sets(self):
        return [some for count in range(1, 9) for some in itertools.combinations(range(8), count)]

    def test_one_lamp(self):
        for lamp in LAMPS:
            for some in self.sets():
                self.check((lamp,), some)

    def test_no_lamps(self):
        for some in self.sets()[::5]:
            self.check((), some)

    def test_several_lamps(self):
        choice = random.Random(50)
        sets = self.sets()
        for count in (2, 3, 6):
            for _ in range(150):
                self.check(tuple(choice.choice(LAMPS) for _ in range(count)), choice.choice(sets))

    def test_longer_motions(self):
        choice = random.Random(51)
        for _ in range(60):
            minutes = tuple(sorted(choice.sample(range(60), choice.randrange(1, 25))))
            lamps = any_lamps(choice, 4, 12)
            self.check(lamps, minutes)

    def test_runs_that_are_told_otherwise(self):
        minutes = (3, 5, 7, 9, 12, 14, 20)
        for motions in (((3, 2, 4), (12, 2, 2), (20, 1, 1)), ((3, 1, 1), (5, 2, 3), (12, 1, 1), (14, 6, 2)),
                        tuple((minute, 1, 1) for minute in minutes)):
            self.assertEqual(tuple(minutes_of(motions)), minutes)
            for lamps in ((("hold", 4),), (("pulse", 5),), (("hold", 6), ("pulse", 3)), ()):
                self.assertEqual(list(each_spare(lamps, motions)), spare_in(lamps, minutes))
                self.assertEqual(thinned(lamps, motions), motions_of(thinned_one_by_one(lamps, minutes)))
                for index in range(7):
                    self.assertEqual(moving_range(lamps, motions, index),
                                     moving_range(lamps, motions_of(minutes), index))
                    self.assertIs(is_spare(lamps, motions, index), is_spare(lamps, motions_of(minutes), index))


class Edges(unittest.TestCase):
    def test_a_single_motion(self):
        for minute in (0, 7, TOP):
            motions = ((minute, 1, 1),)
            for lamp in (("hold", 1), ("hold", TOP), ("pulse", 1), ("pulse", TOP)):
                self.assertIs(is_spare((lamp,), motions, 0), False)
                self.assertEqual(list(each_spare((lamp,), motions)), [])
                self.assertEqual(moving_range((lamp,), motions, 0), (minute, minute))
                self.assertEqual(thinned((lamp,), motions), motions)
            self.assertIs(is_spare((), motions, 0), True)
            self.assertEqual(list(each_spare((), motions)), [0])
            self.assertEqual(moving_range((), motions, 0), (0, TOP))
            self.assertEqual(thinned((), motions), ())

    def test_no_motions(self):
        for lamps in ((), (("hold", 5),), SIX):
            self.assertEqual(list(each_spare(lamps, ())), [])
            self.assertEqual(thinned(lamps, ()), ())
            for call in (is_spare, moving_range):
                check_raises(self, NoIndex(0), call, lamps, (), 0)

    def test_of_two_spare_motions_only_one_can_be_left_out(self):
        lamps, motions = (("hold", 5),), ((0, 2, 4),)
        self.assertEqual(list(each_spare(lamps, motions)), [1, 2])
        self.assertEqual(thinned(lamps, motions), motions_of((0, 4, 6)))

    def test_a_pulse_lamp_does_not_see_the_last_motion(self):
        lamps, motions = (("pulse", 5),), ((TOP - 6, 1, 1), (TOP - 3, 1, 1))
        self.assertIs(is_spare(lamps, motions, 1), True)
        self.assertEqual(moving_range(lamps, motions, 1), (TOP - 5, TOP - 2))
        self.assertEqual(moving_range((("pulse", 20),), motions, 1), (TOP - 5, TOP))
        self.assertEqual(moving_range((("pulse", 20), ("pulse", 6)), motions, 1), (TOP - 5, TOP - 1))
        self.assertEqual(moving_range((("pulse", 20), ("hold", 6)), motions, 1), (TOP - 3, TOP - 3))

    def test_touching_is_no_break(self):
        for stay, spare in ((3, False), (4, True), (5, True)):
            self.assertIs(is_spare((("hold", stay),), ((10, 2, 3),), 1), spare)
        self.assertEqual(moving_range((("hold", 2),), ((10, 2, 3),), 1), (12, 12))
        self.assertEqual(moving_range((("hold", 3),), ((10, 2, 3),), 1), (11, 13))
        self.assertEqual(moving_range((("hold", 3),), ((10, 1, 1), (13, 2, 2)), 1), (12, 13))
        self.assertEqual(moving_range((("hold", 2),), ((10, 3, 3),), 1), (13, 13))
        self.assertEqual(moving_range((("hold", 2),), ((10, 1, 1), (13, 1, 2)), 1), (13, 13))

    def test_long_times(self):
        motions = ((0, 1, TOP + 1),)
        for index in (1, 5, 10 ** 6, TOP - 1):
            self.assertIs(soon(lambda: is_spare((("hold", 3),), motions, index)), True)
            self.assertIs(soon(lambda: is_spare((("hold", 1),), motions, index)), False)
            self.assertEqual(soon(lambda: moving_range((("hold", 3), ("pulse", 7)), motions, index)), (index, index))
        for index in (0, TOP):
            self.assertIs(soon(lambda: is_spare((("hold", 3),), motions, index)), False)
        self.assertIs(soon(lambda: is_spare((("pulse", 7),), motions, 7 * 10 ** 8)), False)
        self.assertIs(soon(lambda: is_spare((("pulse", 7),), motions, 7 * 10 ** 8 + 6)), True)
        motions = ((0, 10, 5 * 10 ** 7), (6 * 10 ** 8, 10, 10 ** 7))
        lamps = (("hold", 15), ("pulse", 30))
        self.assertEqual(soon(lambda: moving_range(lamps, motions, 10 ** 7 + 1)), (10 ** 8 + 5, 10 ** 8 + 15))
        self.assertEqual(soon(lambda: moving_range(lamps, motions, 3 * 10 ** 6)), (3 * 10 ** 7, 3 * 10 ** 7))
        self.assertIs(soon(lambda: is_spare(lamps, motions, 5 * 10 ** 7 + 7)), False)
        self.assertIs(soon(lambda: is_spare((("hold", 20), ("pulse", 30)), motions, 5 * 10 ** 7 + 7)), True)
        self.assertIs(soon(lambda: is_spare((("hold", 20), ("pulse", 30)), motions, 5 * 10 ** 7 + 6)), False)
        self.assertEqual(soon(lambda: moving_range((), motions, 6 * 10 ** 7 - 1)), (699999981, TOP))
        self.assertEqual(moving_range((), motions, 5 * 10 ** 7), (499999991, 600000009))

    def test_motions_that_are_there_and_more(self):
        for lamps in ((), (("hold", 3),)):
            motions = ((0, 2, 2000),)
            self.assertEqual(len(list(soon(lambda: list(each_spare(lamps, motions))))), 2000 if not lamps else 0)
            for more in (((0, 2, 2001),), ((0, 2, 2000), (9000, 1, 1)), ((0, 1, TOP + 1),)):
                check_raises(self, TooLarge(2000), lambda: soon(lambda: next(each_spare(lamps, more))))
                check_raises(self, TooLarge(2000), lambda: list(each_spare(lamps, more, start=10 ** 39)))
            self.assertEqual(thinned(lamps, ((0, 2, 300),)), () if not lamps else ((0, 2, 300),))
            for more in (((0, 2, 301),), ((0, 2, 300), (9000, 1, 1)), ((0, 1, TOP + 1),)):
                check_raises(self, TooLarge(300), lambda: soon(lambda: thinned(lamps, more)))

    def test_sixty_stretches_and_more(self):
        lamps = (("hold", 9), ("pulse", 1))
        for call in (is_spare, moving_range, thinned, each_spare):
            args = (5,) if call in (is_spare, moving_range) else ()
            if call == each_spare:
                self.assertEqual(list(each_spare(lamps, ALONE[:60])), [])
                check_raises(self, TooLarge(60), lambda: next(each_spare(lamps, ALONE)))
                check_raises(self, TooLarge(60), lambda: next(each_spare(lamps, ((0, 2, 3000),))))
                continue
            call(lamps, ALONE[:60], *args)
            check_raises(self, TooLarge(60), call, lamps, ALONE, *args)
            check_raises(self, TooLarge(60), lambda: soon(lambda: call(lamps, ((0, 2, TOP // 2),), *args)))
        for call in (is_spare, moving_range):
            check_raises(self, TooLarge(60), call, lamps, ALONE, None)
        self.assertIs(is_spare((("hold", 2),), ALONE, 60), False)
        # Without the motion in the middle there would be one stretch more, which is no error.
        motions = (*ALONE[:59], (118, 1, 3))
        self.assertEqual(len(log_of(("hold", 1), motions)), 60)
        self.assertIs(is_spare((("hold", 1),), motions, 60), False)

    def test_indexes_that_there_are_not(self):
        motions = ((3, 2, 3), (20, 1, 1))
        for value in (*WRONG, (), 4, 5, "0", (0,), HUGE):
            for lamps in ((), (("hold", 5), ("pulse", 3))):
                for call in (is_spare, moving_range):
                    self.assertIs(check_raises(self, NoIndex(value), call, lamps, motions, value).index, value)

    def test_start(self):
        motions = ((0, 1, 40),)
        for lamps in ((), (("hold", 5),), (("pulse", 3),), (("hold", 2), ("pulse", 7))):
            found = list(each_spare(lamps, motions))
            for start in (*range(43), 10 ** 20, 10 ** 40 - 1):
                expected = [index for index in found if index >= start]
                self.assertEqual(soon(lambda: list(each_spare(lamps, motions, start=start))), expected)

    def test_walks_left_early_and_two_at_once(self):
        one, other = each_spare((), ((0, 1, 9),)), each_spare((("pulse", 2),), ((0, 1, 9),), start=2)
        self.assertEqual([next(one), next(other), next(one), next(other)], [0, 3, 1, 5])

    def test_six_lamps_and_many_runs(self):
        for index in (0, 1, 2, 1000, count_motions(BURSTS) - 1):
            minute = motion_at(BURSTS, index)
            low, high = soon(lambda: moving_range(SIX, BURSTS, index))
            self.assertTrue(low <= minute <= high)
            self.assertIs(type(soon(lambda: is_spare(SIX, BURSTS, index))), bool)
        self.assertIs(is_spare(SIX, BURSTS, 0), False)
        runs = tuple((5 * at, 1, 5) if at < 180 else (900 + 10 * (at - 180), 2, 5) for at in range(360))
        lamps = (("hold", 30), ("hold", 3), ("pulse", 50), ("pulse", 8), ("hold", 9), ("pulse", 900))
        found = soon(lambda: list(each_spare(lamps, runs)))
        self.assertEqual(found, [index for index in range(1800) if is_spare(lamps, runs, index)])
        self.assertTrue(500 < len(found) < 900)


if __name__ == "__main__":
    unittest.main()
