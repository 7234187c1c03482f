"""Points 13 to 23: edges, long times, wrong values and the order of the errors."""

import unittest

from helpers import HUGE, WRONG, check_raises, minutes_of, soon
from lampstays.errors import NoIndex, NoMinute, OtherCount, Unexplained
from lampstays.facts import (
    at_odds, call_spans, explained, explains, possible_spans, quiet_spans, state_of, sure_runs, verdict, verdict_holds,
    wrong_stretches,
)
from lampstays.lamps import count_motions, is_motions, log_of
from stories import BOTH, BOTH_LOGS, BURSTS, DAY, DAY_LOGS, EVERY, PULSE, PULSE_LOGS, SIX, SIX_LOGS

TOP = 10 ** 9
LIMIT = 2 * 10 ** 9
REASONS = ((("pulse", 3),), (((0, 4),),), ("stretch", 0, 0)), \
    ((("hold", 5), ("hold", 2)), (((3, 12),), ((3, 5),)), ("sure", 0, 7, 1)), \
    ((("hold", 3), ("pulse", 2)), (((0, 9),), ((0, 2), (6, 8))), ("call", 0, 2, 1))


class OneLamp(unittest.TestCase):
    def test_one_minute_too_short_or_too_long(self):
        for stay in (2, 5, 1000, TOP - 1):
            hold, pulse = ("hold", stay), ("pulse", stay)
            self.assertEqual(wrong_stretches(hold, ((3, 3 + stay - 1),)), (0,))
            self.assertEqual(wrong_stretches(hold, ((3, 3 + stay),)), ())
            self.assertEqual(wrong_stretches(hold, ((3, 3 + stay + 1),)), ())
            for many in (1, 2):
                if 3 + stay * (many - 1) <= TOP:
                    self.assertEqual(wrong_stretches(pulse, ((3, 3 + stay * many - 1),)), (0,))
                    self.assertEqual(wrong_stretches(pulse, ((3, 3 + stay * many),)), ())
                    self.assertEqual(wrong_stretches(pulse, ((3, 3 + stay * many + 1),)), (0,))

    def test_the_last_minute_of_a_motion(self):
        for kind in ("hold", "pulse"):
            for stay in (1, 5, TOP):
                self.assertEqual(wrong_stretches((kind, stay), ((TOP, TOP + stay),)), ())
                self.assertEqual(wrong_stretches((kind, stay), ((TOP + 1, TOP + 1 + stay),)), (0,))
            self.assertEqual(wrong_stretches((kind, 5), ((TOP - 5, TOP + 5),)), ())
            self.assertEqual(wrong_stretches((kind, 5), ((TOP - 4, TOP + 6),)), (0,))
            self.assertEqual(wrong_stretches((kind, 1), ((LIMIT - 1, LIMIT),)), (0,))
        self.assertEqual(wrong_stretches(("hold", 5), ((0, TOP + 5),)), ())
        self.assertEqual(wrong_stretches(("hold", 5), ((0, TOP + 6),)), (0,))

    def test_many_wrong_stretches(self):
        log = tuple((10 * at, 10 * at + 3 + at % 3) for at in range(60))
        self.assertEqual(wrong_stretches(("hold", 4), log), tuple(range(0, 60, 3)))
        self.assertEqual(wrong_stretches(("pulse", 4), log), tuple(at for at in range(60) if at % 3 != 1))
        for call in (sure_runs, quiet_spans, call_spans):
            check_raises(self, Unexplained(("stretch", 0, 0)), call, ("hold", 4), log)
            check_raises(self, Unexplained(("stretch", 0, 2)), call, ("hold", 4), log[1:])
            check_raises(self, Unexplained(("stretch", 0, 1)), call, ("pulse", 4), log[1:])

    def test_without_stretches(self):
        for kind in ("hold", "pulse"):
            self.assertEqual(wrong_stretches((kind, 5), ()), ())
            self.assertEqual((sure_runs((kind, 5), ()), call_spans((kind, 5), ())), ((), ()))
            self.assertEqual(quiet_spans((kind, 5), ()), ((0, TOP),))

    def test_the_first_and_the_last_minute(self):
        self.assertEqual(quiet_spans(("hold", 5), ((0, 5),)), ((1, TOP),))
        self.assertEqual(quiet_spans(("pulse", 5), ((0, 5),)), ((5, TOP),))
        self.assertEqual(quiet_spans(("hold", 5), ((TOP, TOP + 5),)), ((0, TOP - 1),))
        self.assertEqual(quiet_spans(("hold", 5), ((TOP - 1, TOP + 4),)), ((0, TOP - 2), (TOP, TOP)))
        self.assertEqual(quiet_spans(("pulse", 5), ((TOP - 4, TOP + 1),)), ((0, TOP - 5),))
        self.assertEqual(quiet_spans(("pulse", 5), ((TOP - 5, TOP),)), ((0, TOP - 6), (TOP, TOP)))
        self.assertEqual(quiet_spans(("hold", 5), ((0, TOP + 5),)), ())
        self.assertEqual(quiet_spans(("pulse", 1), ((0, 1), (2, 3))), ((1, 1), (3, TOP)))

    def test_runs_of_one_and_more(self):
        self.assertEqual(sure_runs(("hold", 5), ((3, 8), (9, 15), (20, 30))), ((3, 1, 1), (9, 1, 2), (20, 5, 2)))
        self.assertEqual(sure_runs(("pulse", 5), ((3, 8), (9, 19), (20, 35))), ((3, 1, 1), (9, 5, 2), (20, 5, 3)))

    def test_calls(self):
        hold = ("hold", 5)
        self.assertEqual(call_spans(hold, ((3, 12), (20, 28), (40, 50), (60, 65))), ((3, 7), (40, 45)))
        self.assertEqual(call_spans(("hold", 1), ((3, 4), (5, 8))), ((3, 3), (5, 7)))
        self.assertEqual(call_spans(("pulse", 5), ((3, 13),)), ())

    def test_long_times(self):
        self.assertEqual(soon(lambda: sure_runs(("pulse", 1), ((0, TOP + 1),))), ((0, 1, TOP + 1),))
        self.assertEqual(soon(lambda: sure_runs(("hold", 1), ((0, TOP + 1),))), ((0, TOP, 2),))
        self.assertEqual(soon(lambda: call_spans(("hold", 7), ((0, TOP + 7),))), ((0, TOP),))
        for lamp, log in zip(SIX, SIX_LOGS):
            runs = soon(lambda: sure_runs(lamp, log))
            self.assertTrue(is_motions(runs))
            self.assertEqual((len(runs), len(quiet_spans(lamp, log))), (60, 61))
            if lamp[0] == "pulse":
                self.assertEqual(log_of(lamp, runs), log)


class ManyLamps(unittest.TestCase):
    def test_without_lamps(self):
        self.assertEqual(verdict((), ())[0], "motions")
        self.assertTrue(is_motions(verdict((), ())[1]))
        self.assertEqual((possible_spans((), ()), at_odds((), ())), (((0, TOP),), ()))
        self.assertIs(explained((), ()), True)
        self.assertEqual([state_of((), (), minute) for minute in (0, 7, TOP)], ["open", "open", "open"])
        for motions in ((), EVERY, BURSTS, ((TOP, 1, 1),)):
            self.assertIs(explains((), (), motions), True)
            self.assertIs(verdict_holds((), (), ("motions", motions)), True)
        for value in ("stretch", 0, 0), ("sure", 0, 0, 0), ("call", 0, 0, 0), ("motions", None), ("motions", [(3, 1)]):
            self.assertIs(verdict_holds((), (), value), False)

    def test_empty_logs(self):
        lamps, logs = (("hold", 5), ("pulse", 3)), ((), ())
        self.assertEqual(verdict(lamps, logs), ("motions", ()))
        self.assertEqual(possible_spans(lamps, logs), ())
        self.assertEqual([state_of(lamps, logs, minute) for minute in (0, TOP)], ["quiet", "quiet"])
        self.assertEqual(verdict(lamps, ((), ((3, 6),))), ("sure", 1, 3, 0))
        self.assertEqual(verdict(lamps, (((3, 8),), ())), ("sure", 0, 3, 1))
        self.assertEqual(at_odds(lamps, (((3, 8),), ())), ((0, 1),))

    def test_six_lamps_with_sixty_stretches(self):
        found = soon(lambda: verdict(SIX, SIX_LOGS))
        self.assertIs(soon(lambda: explains(SIX, SIX_LOGS, found[1])), True)
        self.assertIs(soon(lambda: verdict_holds(SIX, SIX_LOGS, found)), True)
        self.assertIs(explains(SIX, SIX_LOGS, BURSTS), True)
        self.assertEqual(soon(lambda: at_odds(SIX, SIX_LOGS)), ())
        self.assertGreater(count_motions(found[1]), count_motions(BURSTS))
        for first, step, count in BURSTS:
            for minute in (first, first + step * (count - 1)):
                self.assertEqual(state_of(SIX, SIX_LOGS, minute), "sure")
            self.assertEqual(state_of(SIX, SIX_LOGS, first - 1), "quiet")
            self.assertEqual(state_of(SIX, SIX_LOGS, first + step * (count - 1) + 1), "quiet")

    def test_the_most_spans_that_there_can_be_are_motions(self):
        lamps = tuple(("hold", stay) for stay in (5, 6, 7, 8, 9, 10))
        # Each lamp has no call, so the motions at its sure minutes are all that it asks for.
        motions = tuple((1000 * at, 11, 2) for at in range(30))
        logs = tuple(log_of(lamp, motions) for lamp in lamps)
        self.assertEqual([len(log) for log in logs], [60] * 6)
        self.assertEqual(possible_spans(lamps, logs), tuple(
            (minute, minute) for at in range(30) for minute in (1000 * at, 1000 * at + 11)))
        self.assertEqual(verdict(lamps, logs)[0], "motions")

    def test_long_times(self):
        self.assertEqual(soon(lambda: possible_spans(DAY, DAY_LOGS)), ((0, TOP - 3),))
        self.assertEqual(soon(lambda: state_of(DAY, DAY_LOGS, TOP - 3)), "sure")
        self.assertEqual(soon(lambda: state_of(DAY, DAY_LOGS, TOP // 2)), "open")
        self.assertEqual(soon(lambda: state_of(PULSE, PULSE_LOGS, TOP // 2)), "sure")
        self.assertEqual(soon(lambda: state_of((("hold", 1),), DAY_LOGS, TOP // 2)), "sure")
        lamps = (("pulse", 1), ("hold", 2))
        logs = (((0, TOP),), ((0, TOP // 2), (TOP // 2 + 1, TOP)))
        self.assertEqual(soon(lambda: verdict(lamps, logs)), ("sure", 0, TOP // 2 - 1, 1))
        self.assertIs(soon(lambda: verdict_holds(lamps, logs, ("sure", 0, TOP // 2, 1))), True)
        self.assertIs(soon(lambda: verdict_holds(lamps, logs, ("sure", 0, TOP // 2 - 2, 1))), False)

    def test_the_smallest_reason_of_the_first_kind(self):
        stretch = ((("hold", 5), ("hold", 2), ("pulse", 3)), (((3, 12),), ((3, 5),), ((3, 6), (8, 12))))
        self.assertEqual(verdict(*stretch), ("stretch", 2, 1))
        self.assertIs(verdict_holds(*stretch, ("sure", 0, 7, 1)), True)
        self.assertIs(verdict_holds(*stretch, ("sure", 0, 7, 2)), False)
        sure = ((("hold", 3), ("pulse", 2), ("hold", 3)), (((0, 9),), ((0, 2), (6, 8)), ((0, 10),)))
        self.assertEqual(verdict(*sure), ("sure", 2, 7, 0))
        self.assertIs(verdict_holds(*sure, ("call", 0, 2, 1)), True)
        others = ((("hold", 5), ("hold", 2), ("hold", 1)), (((3, 12),), ((3, 5),), ((3, 4),)))
        self.assertEqual(verdict(*others), ("sure", 0, 7, 1))
        self.assertIs(verdict_holds(*others, ("sure", 0, 7, 2)), True)
        later = ((("hold", 2), ("hold", 1), ("hold", 5)), (((3, 5),), ((3, 4),), ((3, 12),)))
        self.assertEqual(verdict(*later), ("sure", 2, 7, 0))

    def test_a_reason_for_each_kind(self):
        for lamps, logs, reason in REASONS:
            self.assertEqual(verdict(lamps, logs), reason)
            check_raises(self, Unexplained(reason), possible_spans, lamps, logs)
            check_raises(self, Unexplained(reason), state_of, lamps, logs, None)
            self.assertIs(verdict_holds(lamps, logs, reason), True)
            self.assertIs(verdict_holds(lamps, logs, ("motions", ())), False)
            for at in range(1, len(reason)):
                for value in (*WRONG, reason[at] + 1, reason[at] - 7, str(reason[at])):
                    other = (*reason[:at], value, *reason[at + 1:])
                    if reason[0] == "call" and at == 2 and value == reason[at] + 1:
                        self.assertIs(verdict_holds(lamps, logs, other), True)
                    else:
                        self.assertIs(verdict_holds(lamps, logs, other), False, other)
            for word in (None, True, "", "Sure", "motions", "stretches", ["sure"], ("sure",), {"sure": 1}, 0):
                self.assertIs(verdict_holds(lamps, logs, (word, *reason[1:])), False)
            for value in (list(reason), reason[:-1], reason + (0,), reason[1:], (reason,), {"sure": reason}):
                self.assertIs(verdict_holds(lamps, logs, value), False)

    def test_bools_are_no_numbers(self):
        self.assertIs(verdict_holds((("pulse", 3),), (((0, 4),),), ("stretch", False, False)), False)
        lamps, logs = (("hold", 5), ("hold", 2)), (((0, 9),), ((0, 2),))
        self.assertIs(verdict_holds(lamps, logs, ("sure", 0, 4, 1)), True)
        for value in ("sure", False, 4, 1), ("sure", 0, 4, True):
            self.assertIs(verdict_holds(lamps, logs, value), False)

    def test_a_call_is_quiet_as_a_whole(self):
        lamps, logs = (("hold", 3), ("pulse", 2)), (((0, 9),), ((0, 2), (6, 8)))
        self.assertEqual([verdict_holds(lamps, logs, ("call", 0, minute, 1)) for minute in range(8)],
                         [False, False, True, True, False, False, False, False])
        self.assertEqual(verdict((("hold", 3), ("pulse", 2)), (((0, 9),), ((0, 4), (6, 8))))[0], "motions")

    def test_other_values_explain_nothing(self):
        for value in (*WRONG, (), [(3, 4, 2)], ((3, 4, 2), (20, 4, True)), ((3, 4, 2), [20, 4, 2]), (3, 7, 20, 24),
                      tuple((at, 1, 1) for at in range(361)), ("motions", ((3, 4, 2), (20, 4, 2)))):
            self.assertIs(explains(BOTH, BOTH_LOGS, value), False)
            self.assertIs(verdict_holds(BOTH, BOTH_LOGS, ("motions", value)), False)
        for value in (*WRONG, (), ((),), ((3, 4, 2), (20, 4, 2))):
            self.assertIs(verdict_holds(BOTH, BOTH_LOGS, value), False)
        self.assertIs(verdict_holds(BOTH, BOTH_LOGS, ["motions", ((3, 4, 2), (20, 4, 2))]), False)
        self.assertIs(verdict_holds(BOTH, BOTH_LOGS, ("motions", ((3, 4, 2), (20, 4, 2)), 0)), False)

    def test_motions_with_too_many_stretches_explain_nothing(self):
        lamps, logs = (("hold", 1),), (tuple((2 * at, 2 * at + 1) for at in range(60)),)
        self.assertIs(explains(lamps, logs, ((0, 2, 60),)), True)
        self.assertIs(explains(lamps, logs, ((0, 2, 61),)), False)
        self.assertIs(soon(lambda: explains(lamps, logs, ((0, 2, TOP // 2),))), False)

    def test_more_runs_than_stretches(self):
        motions = tuple((at, 1, 1) for at in range(360))
        self.assertIs(explains((("hold", 5),), (((0, 364),),), motions), True)
        self.assertIs(explains((("hold", 5),), (((0, 363),),), motions), False)

    def test_sure_through_a_call_with_one_possible_minute(self):
        lamps, logs = (("hold", 3), ("pulse", 2)), (((0, 9),), ((0, 4), (6, 8)))
        found = ["sure", "open", "sure", "sure", "quiet", "quiet", "sure", "quiet"]
        self.assertEqual([state_of(lamps, logs, minute) for minute in range(8)], found)
        far = tuple(tuple((on + TOP - 6, off + TOP - 6) for on, off in log) for log in logs)
        self.assertEqual([state_of(lamps, far, minute + TOP - 6) for minute in range(7)], found[:7])


class Errors(unittest.TestCase):
    def calls(self, lamps, logs):
        yield explains, (lamps, logs, None)
        yield verdict, (lamps, logs)
        yield verdict_holds, (lamps, logs, None)
        yield possible_spans, (lamps, logs)
        yield state_of, (lamps, logs, None)
        yield at_odds, (lamps, logs)
        yield explained, (lamps, logs, None)

    def test_other_counts_come_first(self):
        wrong = ((0, 4),)
        for lamps, logs in (((), ((),)), ((("hold", 5),), ()), ((("pulse", 3),), (wrong, wrong)),
                            ((("pulse", 3), ("pulse", 3)), (wrong,)), (SIX, SIX_LOGS[:5]), (SIX[:5], SIX_LOGS)):
            for call, args in self.calls(lamps, logs):
                check_raises(self, OtherCount(len(logs)), call, *args)

    def test_minutes(self):
        for value in (*WRONG, (), TOP + 1, LIMIT):
            self.assertIs(check_raises(self, NoMinute(value), state_of, BOTH, BOTH_LOGS, value).value, value)
            self.assertIs(check_raises(self, NoMinute(value), state_of, (), (), value).value, value)
        check_raises(self, Unexplained(("sure", 0, 7, 1)), state_of, REASONS[1][0], REASONS[1][1], True)

    def test_numbers_of_lamps(self):
        for value in (*WRONG, (), 2, 6):
            error = check_raises(self, NoIndex(value), explained, BOTH, BOTH_LOGS, 0, 1, value, None)
            self.assertIs(error.index, value)
            check_raises(self, NoIndex(value), explained, (), (), value)
        # A lamp whose log does not fit it does no harm as long as it is not chosen.
        lamps, logs = (*BOTH, ("pulse", 3)), (*BOTH_LOGS, ((0, 4),))
        self.assertIs(explained(lamps, logs, 1, 0, 1), True)
        self.assertIs(explained(lamps, logs, 0, 2), False)
        check_raises(self, NoIndex(3), explained, lamps, logs, 2, 3)

    def test_at_odds_needs_stretches_that_fit(self):
        lamps, logs = (("hold", 5), ("pulse", 3), ("pulse", 3)), (((3, 12),), ((3, 6), (9, 11)), ((0, 4),))
        check_raises(self, Unexplained(("stretch", 1, 1)), at_odds, lamps, logs)

    def test_huge_numbers(self):
        for value in (HUGE, -HUGE):
            self.assertIs(verdict_holds(BOTH, BOTH_LOGS, ("sure", 0, value, 1)), False)
            self.assertIs(verdict_holds(BOTH, BOTH_LOGS, ("call", 0, value, 1)), False)
            self.assertIs(verdict_holds(BOTH, BOTH_LOGS, ("stretch", 0, value)), False)
            self.assertIs(verdict_holds(BOTH, BOTH_LOGS, ("stretch", value, 0)), False)
            self.assertIs(explains(BOTH, BOTH_LOGS, ((value, 1, 1),)), False)

    def test_minutes_of_the_verdict(self):
        found = verdict(BOTH, BOTH_LOGS)[1]
        self.assertTrue({3, 7, 20, 24} <= set(minutes_of(found)) <= {3, 4, 5, 7, 20, 21, 22, 24})


if __name__ == "__main__":
    unittest.main()
