"""Points 32 to 39: gaps, the fewest and the most motions, needs, and what comes next."""

import functools
import itertools
import random
import unittest

from helpers import HUGE, WRONG, check_raises, minutes_of, soon
from lampstays.errors import NoMinute, OtherCount, TooLarge, Unexplained
from lampstays.facts import explains, state_of, verdict
from lampstays.fewest import (
    count_explanations, each_explanation, explanation_at, explanation_index, fewest_count, fewest_holds, fewest_motions,
    gaps, is_explanation, most_count, most_motions, needs_of, next_possible, next_sure, united,
)
from lampstays.lamps import count_motions, log_of, motions_of
from small import HIGH, LAMPS, LOW, TOP, always, some_lamps, sure, union
from stories import BOTH, BOTH_LOGS, DAY, DAY_LOGS, LONG, LONG_LOGS, PULSE, PULSE_LOGS, SIX, SIX_LOGS

LIMIT = 2 * TOP


@functools.lru_cache(maxsize=None)
def stories():
    """Windows, lamps and logs, each with all sets that explain them."""
    several = [*itertools.product(LAMPS), *some_lamps(2, 30, seed=32), *some_lamps(3, 20, seed=33)]
    return [(window, lamps, logs, sets) for window in (LOW, HIGH) for lamps in several
            for logs, sets in window.told(lamps).items()]


def gap_stay(lamps, logs, begin, end):
    """The stay of a gap, by the words of the document."""
    return min([lamp[1] for lamp, log in zip(lamps, logs) for on, off in log
                if lamp[0] == "hold" and on <= begin and end <= off - lamp[1]], default=None)


def stretches_of(needs):
    return [(first + length * at, length) for first, length, count in needs for at in range(count)]


class Small(unittest.TestCase):
    def test_gaps(self):
        for window, lamps, logs, sets in stories():
            fixed = sorted({minute for lamp, log in zip(lamps, logs) for minute in sure(lamp, log)})
            possible = union(sets)
            found = gaps(lamps, logs)
            self.assertEqual([gap[0] for gap in found], fixed)
            self.assertEqual([gap[1] for gap in found], [*fixed[1:], None][:len(fixed)])
            for begin, end, loose, stay in found:
                between = [minute for minute in possible if begin < minute and (end is None or minute < end)]
                self.assertEqual(list(range(begin + 1, loose + 1)), between)
                self.assertEqual(stay, None if end is None else gap_stay(lamps, logs, begin, end))

    def test_motions_explain_just_as_the_gaps_tell(self):
        for window, lamps, logs, sets in stories()[::7]:
            found = gaps(lamps, logs)
            allowed = {minute for begin, _, loose, _ in found for minute in range(begin, loose + 1)}
            for some in window.sets:
                right = all(gap[0] in some for gap in found) and set(some) <= allowed
                for begin, end, _, stay in found:
                    inner = [minute for minute in some if stay is not None and begin <= minute <= end]
                    right = right and all(later - minute <= stay for minute, later in zip(inner, inner[1:]))
                self.assertIs(right, some in sets)

    def test_counts_and_motions(self):
        for window, lamps, logs, sets in stories():
            least = min(len(some) for some in sets)
            self.assertEqual(fewest_count(lamps, logs), least)
            self.assertEqual(most_count(lamps, logs), max(len(some) for some in sets))
            self.assertEqual({len(some) for some in sets}, set(range(least, most_count(lamps, logs) + 1)))
            found = fewest_motions(lamps, logs)
            fewest = tuple(minutes_of(found))
            self.assertEqual(len(fewest), least)
            self.assertIn(fewest, sets)
            for some in sets:
                if len(some) == least:
                    self.assertTrue(all(minute <= other for minute, other in zip(fewest, some)))
            self.assertEqual(found, motions_of(fewest))
            self.assertEqual(most_motions(lamps, logs), motions_of(tuple(union(sets))))

    def test_next_minutes(self):
        for window, lamps, logs, sets in stories():
            certain, possible = always(sets), union(sets)
            for minute in window.minutes:
                expected = [next((item for item in some if item >= minute), None) for some in (certain, possible)]
                self.assertEqual([next_sure(lamps, logs, minute), next_possible(lamps, logs, minute)], expected)

    def test_needs_of(self):
        for window, lamps, logs, sets in stories():
            needs = needs_of(lamps, logs)
            self.assertEqual(sum(count for _, _, count in needs), fewest_count(lamps, logs))
            for first, length in stretches_of(needs):
                self.assertTrue(all(any(first <= minute < first + length for minute in some) for some in sets))
            self.assertIs(fewest_holds(lamps, logs, (fewest_motions(lamps, logs), needs)), True)
            self.assertEqual(needs, self.expected_needs(lamps, logs))

    def expected_needs(self, lamps, logs):
        expected = []
        for begin, end, _, stay in gaps(lamps, logs):
            expected.append((begin, 1, 1))
            if stay is not None and end - begin > stay:
                expected.append((begin + 1, stay, (end - begin - 1) // stay))
        return tuple(expected)

    def test_needs_hold_just_if_all_motions_meet_them(self):
        choice = random.Random(38)
        for window, lamps, logs, sets in stories()[::2]:
            for _ in range(12):
                needs, begin = [], window.base + choice.randrange(-1, 3)
                for _ in range(choice.randrange(1, 4)):
                    first = max(0, begin + choice.choice((0, 0, 0, 1, 2)))
                    needs.append((first, choice.randrange(1, 5), choice.randrange(1, 4)))
                    begin = first + needs[-1][1] * needs[-1][2]
                asked = stretches_of(needs)
                hold = all(any(first <= minute < first + length for minute in some)
                           for first, length in asked for some in sets)
                for some in sets[:1] + sets[-1:]:
                    value = (motions_of(some), tuple(needs))
                    self.assertIs(fewest_holds(lamps, logs, value), hold and len(some) == len(asked), (lamps, value))
                # With as many motions as stretches, the needs alone decide.
                right = [some for some in sets if len(some) == len(asked)]
                if right:
                    self.assertIs(fewest_holds(lamps, logs, (motions_of(right[0]), tuple(needs))), hold)

    def test_every_single_need_of_long_gaps(self):
        lamps, logs = (("hold", 4), ("pulse", 5)), (((0, 21),), ((0, 5), (6, 11), (12, 22)))
        sets = list(each_explanation(lamps, logs))
        self.assertGreater(len(sets), 20)
        for first, length in itertools.product(range(25), range(1, 12)):
            hold = all(any(first <= minute < first + length for minute in some) for some in sets)
            for many in {len(some) for some in sets}:
                some = next(some for some in sets if len(some) == many)
                fill = tuple((minute, 1, 1) for minute in (0, 6, 12, 17) if not first <= minute < first + length)
                needs = tuple(sorted([*fill, (first, length, 1)]))
                value = (motions_of(some), needs)
                self.assertIs(fewest_holds(lamps, logs, value), hold and len(needs) == many, value)


class Ordinary(unittest.TestCase):
    def test_without_lamps(self):
        self.assertEqual(gaps((), ()), ((-1, None, TOP, None),))
        self.assertEqual((fewest_count((), ()), most_count((), ())), (0, TOP + 1))
        self.assertEqual((fewest_motions((), ()), most_motions((), ())), ((), ((0, 1, TOP + 1),)))
        self.assertEqual(needs_of((), ()), ())
        self.assertEqual([next_sure((), (), minute) for minute in (0, 7, TOP)], [None, None, None])
        self.assertEqual([next_possible((), (), minute) for minute in (0, 7, TOP)], [0, 7, TOP])
        self.assertIs(fewest_holds((), (), ((), ())), True)
        for value in (((3, 1, 1),), ((3, 1, 1),)), (((3, 1, 1),), ()), ((), ((0, 1, 1),)), (((0, 1, TOP + 1),), ()), \
                (((3, 1, 1),), ((0, TOP + 1, 1),)), (((3, 1, 1),), ((0, HUGE, 1),)):
            self.assertIs(fewest_holds((), (), value), False)

    def test_empty_logs(self):
        lamps, logs = BOTH, ((), ())
        self.assertEqual((gaps(lamps, logs), needs_of(lamps, logs)), ((), ()))
        self.assertEqual((fewest_count(lamps, logs), most_count(lamps, logs)), (0, 0))
        self.assertEqual((fewest_motions(lamps, logs), most_motions(lamps, logs)), ((), ()))
        self.assertEqual((next_sure(lamps, logs, 0), next_possible(lamps, logs, 0)), (None, None))
        self.assertIs(fewest_holds(lamps, logs, ((), ())), True)
        for value in (((3, 1, 1),), ((3, 1, 1),)), ((), ((0, 1, 1),)), (((3, 1, 1),), ()), \
                (((0, 1, 1),), ((0, TOP + 1, 1),)):
            self.assertIs(fewest_holds(lamps, logs, value), False)

    def test_loose_minutes_behind_the_last_fixed_one(self):
        self.assertEqual(gaps((("pulse", 5),), (((TOP - 2, TOP + 3),),)), ((TOP - 2, None, TOP, None),))
        self.assertEqual(gaps((("pulse", 5),), (((TOP - 9, TOP - 4),),)), ((TOP - 9, None, TOP - 5, None),))
        self.assertEqual(gaps((("hold", 5),), (((TOP, TOP + 5),),)), ((TOP, None, TOP, None),))
        self.assertEqual(gaps((("pulse", TOP),), (((0, TOP),),)), ((0, None, TOP - 1, None),))
        self.assertEqual(gaps((("pulse", TOP),), (((0, LIMIT),),)), ((0, TOP, TOP - 1, None), (TOP, None, TOP, None)))

    def test_the_least_of_several_stays(self):
        motions = ((0, 2, 10), (40, 1, 1))
        lamps = (("hold", 5), ("hold", 3), ("hold", 30), ("pulse", 2))
        logs = tuple(log_of(lamp, motions) for lamp in lamps)
        self.assertEqual([gap[3] for gap in gaps(lamps, logs)], [3] * 9 + [30, None])
        self.assertEqual(gaps(lamps, logs)[-2:], ((18, 40, 18, 30), (40, None, 40, None)))

    def test_runs_that_go_on_over_gaps(self):
        lamps, logs = (("hold", 3), ("pulse", 30)), (((0, 33),), ((0, 60),))
        self.assertEqual(fewest_motions(lamps, logs), ((0, 3, 11),))
        self.assertEqual(fewest_motions((("hold", 3),), (((1, 33),),)), ((1, 2, 2), (6, 3, 9)))
        self.assertEqual(most_motions((("pulse", 4), ("pulse", 2)), (((0, 8),), ((0, 8),))), ((0, 1, 8),))

    def test_needs(self):
        right = ((0, 2, 2), (5, 3, 5))
        needs = ((0, 1, 1), (1, 3, 5), (17, 1, 1))
        self.assertIs(fewest_holds(LONG, LONG_LOGS, (right, needs)), True)
        others = (
            ((0, 1, 1), (2, 3, 5), (17, 1, 1)), ((0, 4, 1), (4, 3, 4), (17, 1, 2)), ((0, 1, 1), (1, 3, 6)),
            ((0, 1, 1), (1, 3, 4), (13, 5, 2)), ((0, 3, 6), (18, 1, 1)), ((0, 1, 1), (1, 2, 5), (17, 1, 1)),
        )
        for other in others:
            stretches = stretches_of(other)
            hold = all(any(first <= minute < first + length for minute in some)
                       for first, length in stretches for some in each_explanation(LONG, LONG_LOGS))
            self.assertIs(fewest_holds(LONG, LONG_LOGS, (right, other)), hold and len(stretches) == 7, other)
        self.assertIs(fewest_holds(LONG, LONG_LOGS, (right, ((0, 1, 1), (2, 3, 5), (17, 1, 1)))), True)
        self.assertIs(fewest_holds(LONG, LONG_LOGS, (right, ((0, 1, 1), (3, 3, 5), (18, 1, 1)))), False)
        self.assertIs(fewest_holds(LONG, LONG_LOGS, (right, needs[:2])), False)
        self.assertIs(fewest_holds(LONG, LONG_LOGS, (((0, 1, 18),), needs)), False)
        self.assertIs(fewest_holds(LONG, LONG_LOGS, (((0, 2, 2), (5, 3, 4)), needs)), False)

    def test_values_that_are_no_proofs(self):
        motions, needs = ((0, 2, 2), (5, 3, 5)), ((0, 1, 1), (1, 3, 5), (17, 1, 1))
        for value in (*WRONG, (), motions, needs, [motions, needs], (motions,), (motions, needs, ()), (needs, motions)):
            self.assertIs(fewest_holds(LONG, LONG_LOGS, value), False)
        for value in (*WRONG, list(motions), ((0, 2, 2), [5, 3, 5]), ((0, 2, 2), (5, 3, True))):
            self.assertIs(fewest_holds(LONG, LONG_LOGS, (value, needs)), False)
        for at in range(3):
            for value in (*WRONG, 1.0, (needs[at],), list(needs[at]), needs[at][:2], (*needs[at], 1)):
                self.assertIs(fewest_holds(LONG, LONG_LOGS, (motions, (*needs[:at], value, *needs[at + 1:]))), False)
            for place in range(3):
                for part in (True, False, None, "1", [1], (1,), HUGE, -HUGE, 0 if place else -1):
                    need = (*needs[at][:place], part, *needs[at][place + 1:])
                    # The last stretch has a fixed minute, however long it is.
                    expected = need == (17, HUGE, 1)
                    value = (motions, (*needs[:at], need, *needs[at + 1:]))
                    self.assertIs(fewest_holds(LONG, LONG_LOGS, value), expected, value)
        for value in (*WRONG, list(needs), {"needs": needs}):
            self.assertIs(fewest_holds(LONG, LONG_LOGS, (motions, value)), False)

    def test_needs_in_order(self):
        lamps, logs = (("hold", 1),), (((0, 6),),)
        motions = ((0, 1, 6),)
        for needs in ((0, 1, 6),), ((0, 1, 3), (3, 1, 3)), ((0, 1, 2), (2, 1, 1), (3, 1, 3)):
            self.assertIs(fewest_holds(lamps, logs, (motions, needs)), True)
        self.assertIs(fewest_holds((("hold", 1),), (((0, 1),),), (((0, 1, 1),), ((0, 2, 1),))), True)
        self.assertIs(fewest_holds((("hold", 1),), (((0, 1),),), (((0, 1, 1),), ((-1, 2, 1),))), False)
        for needs in ((0, 1, 3), (2, 1, 3)), ((3, 1, 3), (0, 1, 3)), ((0, 1, 3), (0, 1, 3)), ((0, 2, 2), (3, 1, 4)), \
                ((-1, 1, 6),), ((1, 1, 6),), ((0, 2, 3),), ((0, 2, 3), (6, 1, 3)):
            self.assertIs(fewest_holds(lamps, logs, (motions, needs)), False)

    def test_motions_with_too_many_stretches(self):
        lamps, logs = (("hold", 1),), (tuple((2 * at, 2 * at + 1) for at in range(60)),)
        needs = tuple((2 * at, 1, 1) for at in range(60))
        self.assertIs(fewest_holds(lamps, logs, (((0, 2, 60),), needs)), True)
        self.assertIs(fewest_holds(lamps, logs, (((0, 2, 61),), (*needs, (120, 1, 1)))), False)

    def test_next_sure_agrees_with_state_of(self):
        for lamps, logs in ((BOTH, BOTH_LOGS), (LONG, LONG_LOGS),
                            ((("hold", 3), ("pulse", 2)), (((0, 9),), ((0, 4), (6, 8)))),
                            ((("hold", 3),), (((0, 7),),)), ((("hold", 1),), (((2, 9),),))):
            states = [state_of(lamps, logs, minute) for minute in range(40)]
            for minute in range(40):
                found = next((at for at in range(minute, 40) if states[at] == "sure"), None)
                self.assertEqual(next_sure(lamps, logs, minute), found)
                found = next((at for at in range(minute, 40) if states[at] != "quiet"), None)
                self.assertEqual(next_possible(lamps, logs, minute), found)


class Large(unittest.TestCase):
    def test_hold_lamps_that_are_lit_for_very_long(self):
        self.assertEqual(soon(lambda: gaps(DAY, DAY_LOGS)), ((0, TOP - 3, TOP - 4, 3), (TOP - 3, None, TOP - 3, None)))
        self.assertEqual(soon(lambda: fewest_count(DAY, DAY_LOGS)), 2 + (TOP - 4) // 3)
        self.assertEqual(soon(lambda: most_count(DAY, DAY_LOGS)), TOP - 2)
        self.assertEqual(soon(lambda: fewest_motions(DAY, DAY_LOGS)), ((0, 1, 2), (4, 3, (TOP - 4) // 3)))
        self.assertEqual(soon(lambda: most_motions(DAY, DAY_LOGS)), ((0, 1, TOP - 2),))
        self.assertEqual(soon(lambda: needs_of(DAY, DAY_LOGS)), ((0, 1, 1), (1, 3, (TOP - 4) // 3), (TOP - 3, 1, 1)))
        value = (fewest_motions(DAY, DAY_LOGS), needs_of(DAY, DAY_LOGS))
        self.assertIs(soon(lambda: fewest_holds(DAY, DAY_LOGS, value)), True)
        needs = ((0, 1, 1), (1, 2, (TOP - 4) // 3), (TOP - 3, 1, 1))
        self.assertIs(soon(lambda: fewest_holds(DAY, DAY_LOGS, (value[0], needs))), False)

    def test_by_few_and_by_very_many_motions(self):
        for stay in (1, 2, 10 ** 6, TOP // 2, TOP - 1, TOP):
            lamps, logs = (("hold", stay),), (((0, TOP + stay),),)
            count = soon(lambda: fewest_count(lamps, logs))
            self.assertEqual(count, 2 + (TOP - 1) // stay)
            self.assertEqual(count_motions(soon(lambda: fewest_motions(lamps, logs))), count)
            self.assertEqual(soon(lambda: most_count(lamps, logs)), TOP + 1)
            self.assertIs(soon(lambda: explains(lamps, logs, fewest_motions(lamps, logs))), True)
            value = (fewest_motions(lamps, logs), needs_of(lamps, logs))
            self.assertIs(soon(lambda: fewest_holds(lamps, logs, value)), True)
            self.assertEqual(soon(lambda: next_sure(lamps, logs, 5)), 5 if stay == 1 else TOP)
            self.assertEqual(soon(lambda: next_possible(lamps, logs, TOP // 2)), TOP // 2)

    def test_a_pulse_lamp_that_is_lit_for_very_long(self):
        for call in (gaps, fewest_count, most_count, fewest_motions, most_motions, needs_of):
            check_raises(self, TooLarge(2000), lambda: soon(lambda: call(PULSE, PULSE_LOGS)))
            both = (*PULSE, ("hold", 3)), (*PULSE_LOGS, ((0, TOP + 2),))
            check_raises(self, TooLarge(2000), lambda: soon(lambda: call(*both)))
            check_raises(self, TooLarge(2000), lambda: soon(lambda: call(both[0][::-1], both[1][::-1])))
        lamps = (("pulse", TOP // 2000),)
        self.assertEqual(soon(lambda: fewest_count(lamps, DAY_LOGS)), 2000)
        self.assertEqual(soon(lambda: fewest_motions(lamps, DAY_LOGS)), ((0, TOP // 2000, 2000),))
        self.assertEqual(soon(lambda: most_motions(lamps, DAY_LOGS)), ((0, 1, TOP),))
        self.assertEqual(soon(lambda: len(needs_of(lamps, DAY_LOGS))), 2000)

    def test_six_lamps_with_sixty_stretches(self):
        fewest = soon(lambda: fewest_motions(SIX, SIX_LOGS))
        self.assertEqual(count_motions(fewest), soon(lambda: fewest_count(SIX, SIX_LOGS)))
        self.assertIs(explains(SIX, SIX_LOGS, fewest), True)
        self.assertIs(soon(lambda: fewest_holds(SIX, SIX_LOGS, (fewest, needs_of(SIX, SIX_LOGS)))), True)
        most = soon(lambda: most_motions(SIX, SIX_LOGS))
        self.assertEqual(count_motions(most), soon(lambda: most_count(SIX, SIX_LOGS)))
        self.assertIs(explains(SIX, SIX_LOGS, most), True)
        for minute in (0, 10 ** 6, TOP // 3, TOP):
            later = soon(lambda: next_sure(SIX, SIX_LOGS, minute))
            if later is not None:
                self.assertEqual(state_of(SIX, SIX_LOGS, later), "sure")

    def test_needs_of_many_gaps_at_once(self):
        lamps, logs = (("pulse", 700), ("hold", 7)), (((0, 1400000),), ((0, 1399307),))
        fewest, needs = soon(lambda: fewest_motions(lamps, logs)), soon(lambda: needs_of(lamps, logs))
        self.assertEqual((fewest, len(needs)), (((0, 7, 199901),), 3999))
        self.assertIs(soon(lambda: fewest_holds(lamps, logs, (fewest, needs))), True)
        self.assertIs(soon(lambda: fewest_holds(lamps, logs, (fewest, ((0, 7, 199900), (1399300, 1, 1))))), True)
        self.assertIs(soon(lambda: fewest_holds(lamps, logs, (fewest, ((0, 7, 199901),)))), True)
        self.assertIs(soon(lambda: fewest_holds(lamps, logs, (fewest, ((1, 7, 199901),)))), False)
        self.assertIs(soon(lambda: fewest_holds(lamps, logs, (fewest, ((0, 1, 1), (1, 7, 199900))))), True)
        self.assertIs(soon(lambda: fewest_holds(lamps, logs, (fewest, ((0, 6, 199901),)))), False)


class Limits(unittest.TestCase):
    def apart(self, many):
        """So many minutes, no three of which are a common step apart."""
        minutes = [0]
        while len(minutes) < many:
            minutes.append(minutes[-1] + 2 + len(minutes))
        return tuple(minutes)

    def test_runs_of_two(self):
        for many in (1, 2, 59, 60):
            minutes = self.apart(many)
            lamps, logs = (("hold", 1),), (tuple((minute, minute + 1) for minute in minutes),)
            for call in (fewest_motions, most_motions):
                self.assertEqual(call(lamps, logs), motions_of(minutes))
                self.assertEqual(len(call(lamps, logs)), (many + 1) // 2)

    def test_one_run_more(self):
        found = []
        for many in range(355, 365):
            lamps, logs = self.pulse_and_hold(many)
            minutes = tuple(self.fewest_minutes(lamps, logs))
            runs = len(self.runs_of(minutes))
            found.append(runs)
            self.assertEqual(fewest_count(lamps, logs), len(minutes))
            if runs > 360:
                check_raises(self, TooLarge(360), fewest_motions, lamps, logs)
            else:
                self.assertEqual(fewest_motions(lamps, logs), motions_of(minutes))
        self.assertTrue(360 in found and 361 in found, found)

    def test_one_run_more_of_the_most(self):
        # Six logs of 60 stretches leave at most 360 spans, so it takes logs beyond the limit to have more runs.
        for many in (719, 720, 721, 722):
            minutes = self.apart(many)
            lamps, logs = (("hold", 1),), (tuple((minute, minute + 1) for minute in minutes),)
            for call in (fewest_motions, most_motions):
                if many > 720:
                    check_raises(self, TooLarge(360), call, lamps, logs)
                else:
                    self.assertEqual(call(lamps, logs), motions_of(minutes))

    def runs_of(self, minutes):
        """The runs of minutes, also if they are too many."""
        runs, rest = [], list(minutes)
        while rest:
            many = 2
            while many < len(rest) and rest[many] - rest[many - 1] == rest[1] - rest[0]:
                many += 1
            runs.append(rest[:many])
            rest = rest[many:]
        return runs

    def pulse_and_hold(self, many):
        """A pulse lamp with so many fixed minutes, 50 apart, in all of which a hold lamp is lit."""
        return (("pulse", 50), ("hold", 9)), (((0, 50 * many),), ((0, 50 * (many - 1) + 9),))

    def fewest_minutes(self, lamps, logs):
        for begin, end, _, stay in gaps(lamps, logs):
            yield begin
            if stay is not None:
                yield from range(begin + (end - begin - 1) % stay + 1, end, stay)

    def test_the_number_of_fixed_minutes(self):
        for many in (1999, 2000, 2001):
            lamps, logs = (("pulse", 3),), (((0, 3 * many),),)
            if many > 2000:
                for call in (gaps, fewest_count, most_count, fewest_motions, most_motions, needs_of):
                    check_raises(self, TooLarge(2000), call, lamps, logs)
            else:
                self.assertEqual((fewest_count(lamps, logs), len(gaps(lamps, logs))), (many, many))

    def test_each_fixed_minute_counts_once(self):
        lamps, logs = (("pulse", 2), ("pulse", 4), ("hold", 6)), (((0, 4000),), ((0, 4000),), ((0, 4004),))
        self.assertEqual(len(gaps(lamps, logs)), 2000)
        lamps, logs = (("pulse", 2), ("pulse", 3)), (((0, 3000),), ((0, 3000),))
        self.assertEqual(len(gaps(lamps, logs)), 2000)
        lamps, logs = (("pulse", 2), ("pulse", 3)), (((0, 3006),), ((0, 3006),))
        check_raises(self, TooLarge(2000), gaps, lamps, logs)
        lamps, logs = (("pulse", 2), ("hold", 5)), (((0, 4000),), ((0, 4004),))
        check_raises(self, TooLarge(2000), gaps, lamps, logs)


class Errors(unittest.TestCase):
    def calls(self, lamps, logs):
        for call in (gaps, fewest_count, most_count, fewest_motions, most_motions, needs_of, count_explanations):
            yield call, (lamps, logs)
        for call in (fewest_holds, next_sure, next_possible, is_explanation, explanation_at, explanation_index, united):
            yield call, (lamps, logs, None)
        yield lambda lamps, logs: list(each_explanation(lamps, logs)), (lamps, logs)

    def test_other_counts(self):
        for lamps, logs in (((), ((),)), (BOTH, ()), (BOTH, BOTH_LOGS[:1]), (PULSE, ()),
                            ((("pulse", 3),), (((0, 4),), ()))):
            for call, args in self.calls(lamps, logs):
                check_raises(self, OtherCount(len(logs)), call, *args)

    def test_logs_that_no_motions_explain(self):
        for lamps, logs in (((("pulse", 3),), (((0, 4),),)), ((("hold", 5), ("hold", 2)), (((3, 12),), ((3, 5),))),
                            ((("hold", 3), ("pulse", 2)), (((0, 9),), ((0, 2), (6, 8)))),
                            ((*PULSE, ("hold", 5)), (((0, TOP),), ((0, 4),))),
                            ((*PULSE, ("hold", 5)), (((0, TOP),), ()))):
            for call, args in self.calls(lamps, logs):
                check_raises(self, Unexplained(verdict(lamps, logs)), lambda: soon(lambda: call(*args)))

    def test_too_many_fixed_minutes(self):
        for call, args in self.calls(PULSE, PULSE_LOGS):
            check_raises(self, TooLarge(2000), lambda: soon(lambda: call(*args)))

    def test_minutes(self):
        for value in (*WRONG, (), TOP + 1, LIMIT):
            for call in (next_sure, next_possible):
                for lamps, logs in ((BOTH, BOTH_LOGS), ((), ()), (BOTH, ((), ()))):
                    self.assertIs(check_raises(self, NoMinute(value), call, lamps, logs, value).value, value)


if __name__ == "__main__":
    unittest.main()
