"""Points 4, 6 and 8: the logs of lamps that see motions."""

import itertools
import random
import unittest

from helpers import check_raises, minutes_of, soon, watched
from lampstays.errors import TooLarge
from lampstays.lamps import is_log, log_of, motions_of

TOP = 10 ** 9


def singles(minutes):
    return tuple((minute, 1, 1) for minute in minutes)


class Small(unittest.TestCase):
    def test_no_motions(self):
        for kind in ("hold", "pulse"):
            for stay in (1, 7, TOP):
                self.assertEqual(log_of((kind, stay), ()), ())

    def test_one_motion(self):
        for kind in ("hold", "pulse"):
            for stay in (1, 7, TOP):
                for minute in (0, 5, TOP):
                    self.assertEqual(log_of((kind, stay), ((minute, 1, 1),)), ((minute, minute + stay),))

    def test_all_sets_of_minutes_as_runs_and_one_by_one(self):
        for size in range(10):
            for minutes in itertools.combinations(range(9), size):
                for lamp in itertools.product(("hold", "pulse"), (1, 2, 3, 4, 7, 12)):
                    expected = watched(lamp, minutes)
                    self.assertEqual(log_of(lamp, singles(minutes)), expected, (lamp, minutes))
                    self.assertEqual(log_of(lamp, motions_of(minutes)), expected, (lamp, minutes))

    def test_all_pairs_of_small_runs(self):
        for first, step, count, gap in itertools.product((0, 3), (1, 2, 3, 5), (2, 3, 6), (1, 2, 4)):
            last = first + step * (count - 1)
            motions = ((first, step, count), (last + gap, 4, 3))
            for lamp in itertools.product(("hold", "pulse"), range(1, 12)):
                self.assertEqual(log_of(lamp, motions), watched(lamp, minutes_of(motions)), (lamp, motions))

    def test_many_runs(self):
        choice = random.Random(8)
        for _ in range(300):
            motions, begin = [], 0
            for _ in range(choice.randrange(1, 8)):
                first, count = begin + choice.randrange(9), choice.randrange(1, 6)
                step = choice.randrange(1, 9) if count > 1 else 1
                motions.append((first, step, count))
                begin = first + step * (count - 1) + 1
            lamp = (choice.choice(("hold", "pulse")), choice.randrange(1, 20))
            log = log_of(lamp, tuple(motions))
            self.assertEqual(log, watched(lamp, minutes_of(motions)), (lamp, motions))
            self.assertTrue(is_log(log))

    def test_a_hold_lamp_stays_on_after_the_last_motion_a_pulse_lamp_after_the_one_that_lit_it(self):
        self.assertEqual(log_of(("hold", 5), ((3, 1, 1), (7, 1, 1))), ((3, 12),))
        self.assertEqual(log_of(("pulse", 5), ((3, 1, 1), (7, 1, 1))), ((3, 8),))

    def test_motions_just_when_the_stay_ends(self):
        for kind in ("hold", "pulse"):
            self.assertEqual(log_of((kind, 5), ((3, 5, 2),)), ((3, 13),))
            self.assertEqual(log_of((kind, 5), ((3, 1, 1), (8, 1, 1))), ((3, 13),))
            self.assertEqual(log_of((kind, 5), ((3, 6, 2),)), ((3, 8), (9, 14)))
        self.assertEqual(log_of(("pulse", 6), ((0, 2, 7),)), ((0, 18),))
        self.assertEqual(log_of(("pulse", 6), ((0, 2, 6),)), ((0, 12),))
        self.assertEqual(log_of(("pulse", 5), ((0, 2, 7),)), ((0, 5), (6, 11), (12, 17)))


class Large(unittest.TestCase):
    def check(self, lamp, motions, expected):
        self.assertEqual(soon(lambda: log_of(lamp, motions)), expected)

    def test_a_motion_at_every_minute(self):
        every = ((0, 1, TOP + 1),)
        self.check(("hold", 1), every, ((0, TOP + 1),))
        self.check(("pulse", 1), every, ((0, TOP + 1),))
        self.check(("hold", 7), every, ((0, TOP + 7),))
        self.check(("pulse", 7), every, ((0, 7 * (TOP // 7 + 1)),))
        self.check(("hold", TOP), every, ((0, 2 * TOP),))
        self.check(("pulse", TOP), every, ((0, 2 * TOP),))
        self.check(("pulse", TOP - 1), every, ((0, 2 * (TOP - 1)),))
        self.check(("pulse", TOP // 2 + 1), every, ((0, TOP + 2),))

    def test_short_steps(self):
        self.check(("hold", 2), ((0, 2, TOP // 2 + 1),), ((0, TOP + 2),))
        self.check(("pulse", 2), ((0, 2, TOP // 2 + 1),), ((0, TOP + 2),))
        self.check(("pulse", 4), ((0, 2, TOP // 2),), ((0, TOP),))
        half = TOP // 2
        self.check(("pulse", half - 1), ((0, 2, half + 1),), ((0, half - 1), (half, TOP - 1), (TOP, TOP + half - 1)))

    def test_long_steps(self):
        step = TOP // 59
        for kind in ("hold", "pulse"):
            expected = tuple((step * at, step * at + 1) for at in range(60))
            self.check((kind, 1), ((0, step, 60),), expected)
            self.check((kind, step), ((0, step, 60),), ((0, 60 * step),))
            self.check((kind, step - 1), ((0, step, 60),), tuple((step * at, step * at + step - 1) for at in range(60)))

    def test_a_run_may_be_cut_anywhere(self):
        for stay in (3, 999, 10 ** 7 + 3, 4 * 10 ** 8):
            whole = ((0, 1, TOP + 1),)
            cut = ((0, 1, 123456789), (123456789, 1, 2), (123456791, 1, TOP + 1 - 123456791))
            for kind in ("hold", "pulse"):
                self.check((kind, stay), cut, log_of((kind, stay), whole))

    def test_logs_of_all_minutes_scaled_are_the_logs_scaled(self):
        scale = 10 ** 7
        motions = ((0, 2, 4), (9, 5, 3), (31, 1, 9), (70, 3, 11))
        large = tuple((first * scale, step * scale, count) for first, step, count in motions)
        for kind in ("hold", "pulse"):
            for stay in range(1, 30):
                small = log_of((kind, stay), motions)
                self.assertEqual(small, watched((kind, stay), minutes_of(motions)))
                self.check((kind, stay * scale), large, tuple((on * scale, off * scale) for on, off in small))

    def test_every_minute_of_many_runs(self):
        motions = tuple((at * 2 * 10 ** 6, 1, 10 ** 6) for at in range(360))
        self.check(("hold", 10 ** 6 + 1), motions, ((0, 359 * 2 * 10 ** 6 + 2 * 10 ** 6),))
        check_raises(self, TooLarge(60), lambda: soon(lambda: log_of(("hold", 10 ** 6), motions)))


class TooMany(unittest.TestCase):
    def test_sixty_and_sixty_one_stretches(self):
        for kind in ("hold", "pulse"):
            for stay in (1, 3):
                step = stay + 1
                self.assertEqual(len(log_of((kind, stay), ((0, step, 60),))), 60)
                check_raises(self, TooLarge(60), log_of, (kind, stay), ((0, step, 61),))
                one_by_one = singles(range(0, 61 * step, step))
                self.assertEqual(len(log_of((kind, stay), one_by_one[:60])), 60)
                check_raises(self, TooLarge(60), log_of, (kind, stay), one_by_one)

    def test_pieces_that_touch_count_once(self):
        for kind in ("hold", "pulse"):
            motions = ((0, 2, 30), (59, 2, 31))
            self.assertEqual(len(log_of((kind, 1), motions)), 60)
            check_raises(self, TooLarge(60), log_of, (kind, 1), (*motions, (121, 1, 1)))
            self.assertEqual(log_of((kind, 1), (*motions, (120, 1, 1)))[-1], (119, 121))

    def test_a_log_that_is_joined_again_behind_many_pieces(self):
        motions = tuple((at * 3, 1, 2) for at in range(60))
        self.assertEqual(len(log_of(("hold", 1), motions)), 60)
        self.assertEqual(log_of(("hold", 2), motions), ((0, 180),))

    def test_pulses_that_are_not_seen_do_not_count(self):
        self.assertEqual(len(log_of(("pulse", 3), ((0, 2, 120),))), 60)
        check_raises(self, TooLarge(60), log_of, ("pulse", 3), ((0, 2, 121),))

    def test_very_many(self):
        for kind in ("hold", "pulse"):
            check_raises(self, TooLarge(60), lambda: soon(lambda: log_of((kind, 1), ((0, 2, TOP // 2 + 1),))))
            check_raises(self, TooLarge(60), lambda: soon(lambda: log_of((kind, 2), ((1, 3, TOP // 3),))))
        check_raises(self, TooLarge(60), lambda: soon(lambda: log_of(("pulse", 3), ((0, 2, TOP // 2 + 1),))))
        self.assertEqual(len(log_of(("hold", 3), ((0, 2, TOP // 2 + 1),))), 1)


if __name__ == "__main__":
    unittest.main()
