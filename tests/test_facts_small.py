"""Points 13 to 24: what facts tells of small logs, held against all sets of minutes."""

import itertools
import random
import unittest

from helpers import check_raises, minutes_of
from lampstays.errors import Unexplained
from lampstays.facts import (
    Reading, at_odds, call_spans, explained, explains, possible_spans, quiet_spans, state_of, sure_runs, verdict,
    verdict_holds, wrong_stretches,
)
from lampstays.lamps import motions_of
from small import (
    HIGH, KINDS, LAMPS, LOW, TOP, Window, always, calls, expected_reason, fits, is_quiet, reasons, singles, some_lamps,
    some_logs, spans_at, sure, union,
)

WINDOWS = (LOW, HIGH)


class OneLamp(unittest.TestCase):
    def all_logs(self):
        for window in (Window(0, 8), Window(TOP - 4, 5)):
            begin = window.minutes[0]
            stretches = [(on, off) for on in window.minutes for off in range(on + 1, begin + 12)]
            pairs = [(one, other) for one in stretches for other in stretches if other[0] > one[1]]
            for lamp in LAMPS:
                for log in [(), *((stretch,) for stretch in stretches), *pairs]:
                    yield window, lamp, log

    def test_every_log_of_two_stretches(self):
        for window, lamp, log in self.all_logs():
            wrong = tuple(index for index, stretch in enumerate(log) if not fits(lamp, stretch))
            self.assertEqual(wrong_stretches(lamp, log), wrong)
            if wrong:
                for call in (sure_runs, quiet_spans, call_spans):
                    check_raises(self, Unexplained(("stretch", 0, wrong[0])), call, lamp, log)
                continue
            self.check_facts(lamp, log)

    def check_facts(self, lamp, log):
        runs = sure_runs(lamp, log)
        self.assertEqual(minutes_of(runs), sure(lamp, log))
        self.assertEqual([run[0] for run in runs], [on for on, _ in log])
        self.assertTrue(all(step == 1 for _, step, count in runs if count == 1))
        begin = max(0, log[0][0] - 3) if log else 0
        near = range(begin, min(begin + 25, TOP + 1))
        quiet = quiet_spans(lamp, log)
        for minute in (0, *near, TOP):
            self.assertEqual(any(first <= minute <= last for first, last in quiet), is_quiet(lamp, log, minute))
        self.assertTrue(all(one[1] + 1 < other[0] for one, other in zip(quiet, quiet[1:])))
        self.assertTrue(all(0 <= first <= last <= TOP for first, last in quiet))
        spans = call_spans(lamp, log)
        first_minutes = [minute for first, last in spans for minute in range(first, last - lamp[1] + 2)]
        self.assertEqual(first_minutes, calls(lamp, log))
        self.assertTrue(all((first, last + lamp[1]) in log for first, last in spans))

    def test_a_stretch_fits_just_if_some_motions_light_the_lamp_for_it(self):
        for window in (Window(0, 8), Window(TOP - 7, 8)):
            for lamp in LAMPS:
                told = window.logs_of(lamp)
                for on in window.minutes:
                    for off in range(on + 1, window.minutes[0] + 9):
                        self.assertIs(wrong_stretches(lamp, ((on, off),)) == (), ((on, off),) in told, (lamp, on, off))


class Explained(unittest.TestCase):
    def check(self, window, lamps, logs, sets):
        found = verdict(lamps, logs)
        self.assertEqual(found[0], "motions")
        self.assertIn(tuple(minutes_of(found[1])), sets)
        self.assertIs(verdict_holds(lamps, logs, found), True)
        possible, certain = union(sets), always(sets)
        self.assertEqual(possible_spans(lamps, logs), spans_at(possible))
        reading = Reading(lamps, logs)
        self.assertEqual((reading.spans, reading.possible), (spans_at(possible), len(possible)))
        near = [window.base - 1, *window.minutes, window.base + len(window.minutes)]
        for minute in near:
            self.assertIs(minute in reading, minute in possible)
            if 0 <= minute <= TOP:
                expected = "sure" if minute in certain else "open" if minute in possible else "quiet"
                self.assertEqual((state_of(lamps, logs, minute), reading(minute)), (expected, expected))
        self.assertEqual(at_odds(lamps, logs), ())
        self.assertIs(explained(lamps, logs, *range(len(lamps))), True)

    def test_one_and_two_lamps(self):
        for window in WINDOWS:
            for lamps in [*itertools.product(LAMPS, repeat=1), *itertools.product(LAMPS, LAMPS)]:
                for logs, sets in window.told(lamps).items():
                    self.check(window, lamps, logs, sets)

    def test_three_lamps(self):
        for window in WINDOWS:
            for lamps in some_lamps(3, 40, seed=13):
                for logs, sets in window.told(lamps).items():
                    self.check(window, lamps, logs, sets)

    def test_explains(self):
        for window in WINDOWS:
            for lamps in [*itertools.product(LAMPS, repeat=1), *some_lamps(2, 15, seed=17), *some_lamps(3, 6, seed=18)]:
                for logs, sets in list(window.told(lamps).items())[::5]:
                    for some in window.sets:
                        for motions in (singles(some), motions_of(some)):
                            self.assertIs(explains(lamps, logs, motions), some in sets)
                            self.assertIs(verdict_holds(lamps, logs, ("motions", motions)), some in sets)


class Contradicted(unittest.TestCase):
    def check(self, window, lamps, logs):
        expected = expected_reason(lamps, logs)
        sets = window.explaining(lamps, logs)
        self.assertEqual(expected is None, sets != [], (lamps, logs))
        found = verdict(lamps, logs)
        self.assertIs(verdict_holds(lamps, logs, found), True)
        everybody = range(len(lamps))
        self.assertIs(explained(lamps, logs, *everybody), expected is None)
        if expected is None:
            self.assertEqual(found[0], "motions")
            return
        self.assertEqual(found, expected)
        for call in (possible_spans, Reading):
            check_raises(self, Unexplained(expected), call, lamps, logs)
        check_raises(self, Unexplained(expected), state_of, lamps, logs, 0)
        if expected[0] == "stretch":
            check_raises(self, Unexplained(expected), at_odds, lamps, logs)
            return
        pairs = tuple((one, other) for one in everybody for other in everybody if one < other and not window.explaining(
            (lamps[one], lamps[other]), (logs[one], logs[other])))
        self.assertEqual(at_odds(lamps, logs), pairs)
        self.assertNotEqual(pairs, ())

    def check_reasons(self, window, lamps, logs):
        right = set(reasons(lamps, logs))
        numbers = range(-1, len(lamps) + 1)
        near = range(window.base - 1, window.base + len(window.minutes) + 2)
        tried = [("stretch", number, index) for number in numbers for index in range(-1, 4)]
        tried.extend((word, number, minute, other) for word in ("sure", "call") for number in numbers
                     for minute in near for other in numbers)
        for value in tried:
            self.assertIs(verdict_holds(lamps, logs, value), value in right, (lamps, logs, value))

    def test_logs_of_different_motions(self):
        for window in WINDOWS:
            for count, many in ((1, 60), (2, 600), (3, 600)):
                for lamps, logs in some_logs(window, count, many, seed=14 + count):
                    self.check(window, lamps, logs)

    def test_reasons_and_only_reasons_are_accepted(self):
        for window in WINDOWS:
            for count, many in ((1, 20), (2, 100), (3, 60)):
                for lamps, logs in some_logs(window, count, many, seed=19 + count):
                    self.check_reasons(window, lamps, logs)

    def test_all_pairs_of_logs_of_two_lamps(self):
        for window in WINDOWS:
            for lamps in (("hold", 2), ("pulse", 2)), (("hold", 2), ("hold", 1)), (("hold", 3), ("pulse", 2)):
                one, other = (list(window.logs_of(lamp)) for lamp in lamps)
                for logs in itertools.product(one[::2], other):
                    self.check(window, lamps, logs)

    def test_chosen_lamps(self):
        choice = random.Random(23)
        for window in WINDOWS:
            for lamps, logs in some_logs(window, 3, 200, seed=23):
                chosen = [choice.randrange(3) for _ in range(choice.randrange(4))]
                some = [lamps[at] for at in chosen], [logs[at] for at in chosen]
                self.assertIs(explained(lamps, logs, *chosen), window.explaining(*some) != [])

    def test_kinds(self):
        self.assertEqual({kind for kind, _ in LAMPS}, set(KINDS))


if __name__ == "__main__":
    unittest.main()
