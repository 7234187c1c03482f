"""Points 5 and 9 to 11: motions of minutes, their number, their indexes, and the walk through them."""

import itertools
import unittest

from helpers import HUGE, WRONG, check_raises, minutes_of, soon
from lampstays.errors import NoIndex, NoMinute, TooLarge
from lampstays.lamps import Log, count_motions, each_motion, is_motions, motion_at, motions_before, motions_of

TOP = 10 ** 9
SOME = ((), ((4, 1, 1),), ((0, 1, 1),), ((TOP, 1, 1),), ((3, 2, 3), (20, 4, 2)), ((0, 1, 5), (5, 1, 1), (6, 3, 4)),
        ((0, 5, 7), (31, 1, 2), (40, 1, 1), (41, 1, 1), (99, 10, 3)), ((TOP - 9, 3, 4),))
EVERY = ((0, 1, TOP + 1),)
OTHER = ((0, 2, 5 * 10 ** 8), (TOP, 1, 1))


def greedy(minutes):
    """The runs as the document tells them: each takes as many minutes as it can."""
    runs, rest = [], list(minutes)
    while rest:
        taken = rest[:2]
        while len(taken) >= 2 and len(taken) < len(rest) and rest[len(taken)] - taken[-1] == taken[1] - taken[0]:
            taken.append(rest[len(taken)])
        runs.append((taken[0], taken[1] - taken[0] if len(taken) > 1 else 1, len(taken)))
        rest = rest[len(taken):]
    return tuple(runs)


class MotionsOf(unittest.TestCase):
    def test_all_small_sets_of_minutes(self):
        for size in range(12):
            for minutes in itertools.combinations(range(11), size):
                motions = motions_of(minutes)
                self.assertEqual(motions, greedy(minutes))
                self.assertTrue(is_motions(motions))
                self.assertEqual(minutes_of(motions), list(minutes))

    def test_a_run_takes_a_second_minute_whatever_the_step(self):
        self.assertEqual(motions_of((0, TOP)), ((0, TOP, 2),))
        self.assertEqual(motions_of((0, 7, 8, 9)), ((0, 7, 2), (8, 1, 2)))
        self.assertEqual(motions_of((0, 7, 14, 15)), ((0, 7, 3), (15, 1, 1)))

    def test_the_ends(self):
        self.assertEqual(motions_of((0,)), ((0, 1, 1),))
        self.assertEqual(motions_of((TOP,)), ((TOP, 1, 1),))
        self.assertEqual(motions_of(tuple(range(1999))), ((0, 1, 1999),))

    def test_values_that_are_no_tuples(self):
        for value in WRONG:
            if not isinstance(value, tuple):
                self.assertIs(check_raises(self, NoMinute(value), motions_of, value).value, value)

    def test_items_that_are_no_minutes(self):
        for item in (*WRONG, TOP + 1, (), (3,), [3], Log(())):
            for value in ((item,), (3, item), (item, 3), (3, item, 3), (3, item, None)):
                self.assertIs(check_raises(self, NoMinute(item), motions_of, value).value, item)

    def test_items_that_are_not_greater(self):
        for value, item in (((3, 5, 5), 5), ((3, 5, 4), 4), ((0, 0), 0), ((5, 0), 0), ((3, 5, 4, None), 4)):
            check_raises(self, NoMinute(item), motions_of, value)

    def test_the_number_of_runs(self):
        minutes = [0]
        for at in range(721):
            minutes.append(minutes[-1] + 1 + at)
        self.assertEqual(len(motions_of(tuple(minutes[:720]))), 360)
        self.assertEqual(len(motions_of(tuple(minutes[:719]))), 360)
        check_raises(self, TooLarge(360), motions_of, tuple(minutes[:721]))
        check_raises(self, TooLarge(360), motions_of, tuple(minutes[:722]))

    def test_a_wrong_minute_comes_before_too_many_runs(self):
        minutes = tuple(at * at for at in range(1000))
        check_raises(self, TooLarge(360), motions_of, minutes)
        check_raises(self, NoMinute(True), motions_of, (*minutes, True))
        check_raises(self, NoMinute(5), motions_of, (*minutes, 5))


class Counted(unittest.TestCase):
    def test_count_motions(self):
        for motions in SOME:
            self.assertEqual(count_motions(motions), len(minutes_of(motions)))
        self.assertEqual(soon(lambda: count_motions(EVERY)), TOP + 1)
        self.assertEqual(soon(lambda: count_motions(OTHER)), TOP // 2 + 1)

    def test_motion_at(self):
        for motions in SOME:
            minutes = minutes_of(motions)
            self.assertEqual([motion_at(motions, index) for index in range(len(minutes))], minutes)
            for index in (len(minutes), len(minutes) + 1, -1, -len(minutes), HUGE, -HUGE):
                check_raises(self, NoIndex(index), motion_at, motions, index)

    def test_motion_at_of_very_many(self):
        for index in (0, 1, 123456789, TOP - 1, TOP):
            self.assertEqual(soon(lambda: motion_at(EVERY, index)), index)
        check_raises(self, NoIndex(TOP + 1), motion_at, EVERY, TOP + 1)
        self.assertEqual(soon(lambda: motion_at(OTHER, 5 * 10 ** 8 - 1)), TOP - 2)
        self.assertEqual(soon(lambda: motion_at(OTHER, 5 * 10 ** 8)), TOP)
        check_raises(self, NoIndex(5 * 10 ** 8 + 1), motion_at, OTHER, 5 * 10 ** 8 + 1)

    def test_motion_at_with_other_values(self):
        for motions in SOME:
            for index in WRONG:
                self.assertIs(check_raises(self, NoIndex(index), motion_at, motions, index).index, index)

    def test_motions_before(self):
        for motions in SOME:
            minutes = minutes_of(motions)
            for minute in (*range(130), *range(TOP - 20, TOP + 1)):
                expected = len([item for item in minutes if item < minute])
                self.assertEqual(motions_before(motions, minute), expected, (motions, minute))

    def test_motions_before_of_very_many(self):
        for minute in (0, 1, 123456789, TOP - 1, TOP):
            self.assertEqual(soon(lambda: motions_before(EVERY, minute)), minute)
            self.assertEqual(soon(lambda: motions_before(OTHER, minute)), (minute + 1) // 2)

    def test_motions_before_with_other_values(self):
        for motions in SOME:
            for minute in (*WRONG, TOP + 1):
                self.assertIs(check_raises(self, NoMinute(minute), motions_before, motions, minute).value, minute)


class Walk(unittest.TestCase):
    def test_all_motions_from_every_index_on(self):
        for motions in SOME:
            minutes = minutes_of(motions)
            self.assertEqual(list(each_motion(motions)), minutes)
            for start in range(len(minutes) + 3):
                self.assertEqual(list(each_motion(motions, start=start)), minutes[start:])

    def test_a_start_that_is_too_great(self):
        for start in (TOP, 10 ** 30, 10 ** 39, 10 ** 40 - 1):
            for motions in SOME:
                self.assertEqual(soon(lambda: list(each_motion(motions, start=start))), [])
        for start in (TOP + 1, 10 ** 40 - 1):
            self.assertEqual(soon(lambda: list(each_motion(EVERY, start=start))), [])

    def test_the_first_motions_of_very_many_at_once(self):
        walk = each_motion(EVERY)
        self.assertEqual(soon(lambda: [next(walk) for _ in range(5)]), [0, 1, 2, 3, 4])
        walk = each_motion(OTHER, start=3)
        self.assertEqual(soon(lambda: [next(walk), next(walk)]), [6, 8])
        walk = each_motion(EVERY, start=5 * 10 ** 8)
        self.assertEqual(soon(lambda: next(walk)), 5 * 10 ** 8)

    def test_the_last_motions_of_very_many_at_once(self):
        self.assertEqual(soon(lambda: list(each_motion(EVERY, start=TOP - 1))), [TOP - 1, TOP])
        self.assertEqual(soon(lambda: list(each_motion(OTHER, start=5 * 10 ** 8 - 1))), [TOP - 2, TOP])

    def test_two_walks_are_independent(self):
        motions = ((3, 2, 3), (20, 4, 2))
        one, other = each_motion(motions), each_motion(motions)
        self.assertEqual([next(one), next(one), next(other), next(one), next(other)], [3, 5, 3, 7, 5])


if __name__ == "__main__":
    unittest.main()
