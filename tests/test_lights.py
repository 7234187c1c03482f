"""Points 44 to 47: what a light does by all motions that explain the logs."""

import unittest

from helpers import HUGE, WRONG, check_raises, soon
from lampstays.errors import NoCount, NoIndex, NoMinute, OtherCount, TooLarge, Unexplained
from lampstays.fewest import each_explanation
from lampstays.foretold import Light, each_light, light_log, light_state
from lampstays.lamps import log_of, motions_of
from small import HIGH, LAMPS, LOW, TOP, some_lamps
from stories import BOTH, BOTH_LOGS, DAY, DAY_LOGS, LONG, LONG_LOGS, PULSE, PULSE_LOGS, SIX, SIX_LOGS

LIMIT = 2 * TOP
STAYS = range(1, 7)
SOME = ((BOTH, BOTH_LOGS), (LONG, LONG_LOGS), ((), ()), (BOTH, ((), ())), (DAY[:0], ()), (SIX, SIX_LOGS),
        ((("hold", 9),), (((5, 40), (50, 59), (70, 100)),)), ((("pulse", 4), ("hold", 7)), (((0, 8),), ((0, 14),))))


def state_by_sets(sets, stay, minute):
    """The state of a light at a minute, if just these sets of minutes explain the logs."""
    lit = [any(minute - stay < motion <= minute for motion in some) for some in sets]
    return "on" if all(lit) else "open" if any(lit) else "off"


def items_of(states):
    """The longest stretches with the same state, but "off", of pairs (minute, state)."""
    items = []
    for minute, state in states:
        if state == "off":
            continue
        if items and items[-1][1:] == (minute, state):
            items[-1] = (items[-1][0], minute + 1, state)
        else:
            items.append((minute, minute + 1, state))
    return tuple(items)


class Small(unittest.TestCase):
    def check(self, window, lamps, logs, sets):
        minutes = range(window.minutes[0], window.minutes[-1] + 8)
        for stay in STAYS:
            states = [(minute, state_by_sets(sets, stay, minute)) for minute in minutes]
            expected = items_of(states)
            self.assertEqual(light_log(lamps, logs, stay), expected, (lamps, logs, stay))
            self.assertEqual(tuple(each_light(lamps, logs, stay)), expected)
            light = Light(lamps, logs, stay)
            self.assertEqual([light(minute) for minute, _ in states], [state for _, state in states])
            self.assertEqual([minute in light for minute, _ in states], [state == "on" for _, state in states])
            for minute, state in states[stay::3]:
                self.assertEqual(light_state(lamps, logs, stay, minute), state)

    def test_one_lamp(self):
        for window in (LOW, HIGH):
            for lamp in LAMPS:
                for logs, sets in window.told((lamp,)).items():
                    self.check(window, (lamp,), logs, sets)

    def test_two_lamps(self):
        for window in (LOW, HIGH):
            for lamps in some_lamps(2, 16, seed=44):
                for logs, sets in window.told(lamps).items():
                    self.check(window, lamps, logs, sets)

    def test_three_lamps(self):
        for window in (LOW, HIGH):
            for lamps in some_lamps(3, 12, seed=45):
                for logs, sets in window.told(lamps).items():
                    self.check(window, lamps, logs, sets)

    def test_longer_logs_by_their_explanations(self):
        for lamps, logs in (((("hold", 6),), (((2, 21),),)), ((("hold", 4), ("pulse", 5)), (((1, 15),), ((1, 16),))),
                            ((("hold", 5), ("hold", 3)), (((0, 17),), ((0, 3), (5, 15)))),
                            ((("pulse", 7),), (((3, 10), (12, 19)),))):
            sets = list(each_explanation(lamps, logs))
            self.assertGreater(len(sets), 5)
            for stay in range(1, 12):
                states = [(minute, state_by_sets(sets, stay, minute)) for minute in range(45)]
                self.assertEqual(light_log(lamps, logs, stay), items_of(states))
                self.assertEqual([light_state(lamps, logs, stay, minute) for minute, _ in states],
                                 [state for _, state in states])


class Foretold(unittest.TestCase):
    def test_a_light_beside_the_log_of_a_hold_lamp(self):
        for lamps, logs in ((BOTH, BOTH_LOGS), (LONG[:1], (((0, 12),),)), ((("pulse", 4),), (((1, 9), (12, 16)),))):
            for stay in (1, 2, 3, 4, 5, 9, 30):
                items = light_log(lamps, logs, stay)
                seen = [log_of(("hold", stay), motions_of(some)) for some in each_explanation(lamps, logs)]
                for minute in range(60):
                    lit = {any(on <= minute < off for on, off in log) for log in seen}
                    told = [state for on, off, state in items if on <= minute < off]
                    self.assertEqual(told, [] if lit == {False} else ["on"] if lit == {True} else ["open"])

    def test_a_lamp_foretells_itself(self):
        for number, (kind, stay) in enumerate(SIX):
            if kind == "hold":
                expected = tuple((on, off, "on") for on, off in SIX_LOGS[number])
                self.assertEqual(soon(lambda: light_log(SIX, SIX_LOGS, stay)), expected)
                self.assertEqual(light_log(SIX[number:number + 1], SIX_LOGS[number:number + 1], stay), expected)


class Edges(unittest.TestCase):
    def test_no_lamps(self):
        for stay in (1, 2, 5, TOP - 1, TOP):
            self.assertEqual(soon(lambda: light_log((), (), stay)), ((0, TOP + stay, "open"),))
            light = Light((), (), stay)
            self.assertEqual((light.sure, light.unclear, len(light)), (0, TOP + stay, 1))
            for minute, state in ((0, "open"), (TOP, "open"), (TOP + stay - 1, "open"), (TOP + stay, "off")):
                self.assertEqual(light_state((), (), stay, minute), state)
        self.assertEqual(light_state((), (), TOP, LIMIT - 1), "open")
        self.assertEqual(light_state((), (), TOP, LIMIT), "off")

    def test_empty_logs(self):
        for lamps in (BOTH, PULSE, SIX):
            logs = ((),) * len(lamps)
            for stay in (1, 7, TOP):
                self.assertEqual(light_log(lamps, logs, stay), ())
                self.assertEqual(list(each_light(lamps, logs, stay)), [])
                for minute in (0, 5, TOP, LIMIT):
                    self.assertEqual(light_state(lamps, logs, stay, minute), "off")

    def test_long_times(self):
        self.assertEqual(soon(lambda: light_log(DAY, DAY_LOGS, 3)), ((0, TOP, "on"),))
        self.assertEqual(light_log(DAY, DAY_LOGS, 5), ((0, TOP + 2, "on"),))
        self.assertEqual(light_log(DAY, DAY_LOGS, 2), ((0, 2, "on"), (2, TOP - 3, "open"), (TOP - 3, TOP - 1, "on")))
        self.assertEqual(light_log(DAY, DAY_LOGS, TOP), ((0, LIMIT - 3, "on"),))
        self.assertEqual(soon(lambda: Light(DAY, DAY_LOGS, 1).unclear), TOP - 4)
        one, log = (("hold", TOP),), (((0, LIMIT),),)
        self.assertEqual(light_log(one, log, TOP), ((0, LIMIT, "on"),))
        self.assertEqual(light_log(one, log, 1), ((0, 1, "on"), (1, TOP, "open"), (TOP, TOP + 1, "on")))
        self.assertEqual(light_log((("pulse", TOP),), (((0, TOP),),), 7), ((0, 7, "on"), (7, TOP + 6, "open")))
        self.assertEqual(light_log((("pulse", 1),), (((TOP, TOP + 1),),), TOP), ((TOP, LIMIT, "on"),))

    def test_a_gap_in_which_only_few_minutes_are_left(self):
        lamps = (("hold", 5), ("pulse", 3))
        logs = ((0, 12),), ((0, 3), (7, 10))
        self.assertEqual(light_log(lamps, logs, 1), ((0, 1, "on"), (1, 2, "open"), (2, 3, "on"), (7, 8, "on")))
        self.assertEqual(light_log(lamps, logs, 2), ((0, 4, "on"), (7, 9, "on")))
        logs = ((0, 11),), ((0, 3), (6, 9))
        self.assertEqual(light_log(lamps, logs, 1), ((0, 1, "on"), (1, 3, "open"), (6, 7, "on")))
        self.assertEqual(light_log(lamps, logs, 2), ((0, 3, "on"), (3, 4, "open"), (6, 8, "on")))
        self.assertEqual(light_log(lamps, logs, 4), ((0, 5, "on"), (5, 6, "open"), (6, 10, "on")))
        self.assertEqual(light_log(lamps, logs, 5), ((0, 11, "on"),))

    def test_minutes(self):
        for minute in (0, 1, TOP, TOP + 1, LIMIT - 1, LIMIT):
            self.assertEqual(light_state(BOTH, BOTH_LOGS, 2, minute), "off")
            self.assertEqual(Light(BOTH, BOTH_LOGS, 2)(minute), "off")
        for value in (*WRONG, (), (3,), LIMIT + 1):
            self.assertIs(check_raises(self, NoMinute(value), light_state, BOTH, BOTH_LOGS, 2, value).value, value)
            self.assertIs(check_raises(self, NoMinute(value), Light(BOTH, BOTH_LOGS, 2), value).value, value)

    def test_stays(self):
        for value in (*WRONG, (), 0, TOP + 1, LIMIT):
            for call in (light_log, Light, lambda *args: list(each_light(*args)),
                         lambda *args: next(each_light(*args))):
                self.assertIs(check_raises(self, NoCount(value), call, BOTH, BOTH_LOGS, value).value, value)
            check_raises(self, NoCount(value), light_state, BOTH, BOTH_LOGS, value, None)
            check_raises(self, NoCount(value), light_log, (), (), value)

    def test_the_errors_of_logs_come_first(self):
        for lamps, logs, error in (
            (BOTH, (), OtherCount(0)), ((), ((),), OtherCount(1)),
            ((("pulse", 3),), (((0, 4),),), Unexplained(("stretch", 0, 0))),
            ((("hold", 5), ("hold", 2)), (((3, 12),), ((3, 5),)), Unexplained(("sure", 0, 7, 1))),
            ((("hold", 3), ("pulse", 2)), (((0, 9),), ((0, 2), (6, 8))), Unexplained(("call", 0, 2, 1))),
            (PULSE, PULSE_LOGS, TooLarge(2000)), ((("pulse", 1),), (((0, 2001),),), TooLarge(2000)),
        ):
            check_raises(self, error, light_state, lamps, logs, None, None)
            for call in (light_log, Light, lambda *args: list(each_light(*args))):
                check_raises(self, error, lambda: soon(lambda: call(lamps, logs, None)))

    def test_just_as_many_fixed_minutes_as_may_be(self):
        log = soon(lambda: light_log((("pulse", 3),), (((0, 6000),),), 2))
        self.assertEqual(len(log), 4000)
        self.assertEqual(log[:3], ((0, 2, "on"), (2, 3, "open"), (3, 5, "on")))
        self.assertEqual(log[-2:], ((5997, 5999, "on"), (5999, 6001, "open")))


class Walk(unittest.TestCase):
    def test_start(self):
        for lamps, logs in SOME:
            for stay in (1, 2, 5):
                items = light_log(lamps, logs, stay)
                for start in (0, 1, len(items) // 2, len(items), len(items) + 1, 10 ** 39, 10 ** 40 - 1):
                    found = soon(lambda: list(each_light(lamps, logs, stay, start=start)))
                    self.assertEqual(found, list(items[start:]))

    def test_left_early_and_two_at_once(self):
        items = light_log(BOTH, BOTH_LOGS, 2)
        one, other = each_light(BOTH, BOTH_LOGS, 2), each_light(BOTH, BOTH_LOGS, 2, start=3)
        self.assertEqual([next(one), next(other), next(one), next(other)], [items[0], items[3], items[1], items[4]])


class Lights(unittest.TestCase):
    def test_items(self):
        for lamps, logs in SOME:
            for stay in (1, 2, 3, 50):
                light, items = Light(lamps, logs, stay), light_log(lamps, logs, stay)
                self.assertEqual([light[index] for index in range(len(light))], list(items))
                self.assertIs(bool(light), items != ())
                self.assertEqual(light.sure, sum(off - on for on, off, state in items if state == "on"))
                self.assertEqual(light.unclear, sum(off - on for on, off, state in items if state == "open"))
                for index in (*WRONG, len(items), len(items) + 1, -len(items) - 1, (0,), slice(0, 1), HUGE):
                    self.assertIs(check_raises(self, NoIndex(index), lambda: light[index]).index, index)

    def test_in(self):
        light = Light(BOTH, BOTH_LOGS, 2)
        self.assertEqual([minute for minute in range(-3, 40) if minute in light], [3, 4, 7, 8, 20, 21, 24, 25])
        whole = Light((("hold", TOP),), (((0, LIMIT),),), TOP)
        self.assertEqual([value in whole for value in (-1, 0, 1, TOP, TOP + 1, LIMIT - 1, LIMIT, LIMIT + 1, HUGE)],
                         [False, True, True, True, True, True, False, False, False])
        for value in (*WRONG, (), (0, LIMIT, "on")):
            self.assertIs(value in whole, False)

    def test_equal(self):
        light = Light(BOTH, BOTH_LOGS, 2)
        self.assertEqual(light, Light(BOTH, BOTH_LOGS, 2))
        self.assertEqual(light, Light(BOTH[::-1], BOTH_LOGS[::-1], 2))
        self.assertEqual(Light(BOTH, ((), ()), 2), Light(SIX, ((),) * 6, 9))
        self.assertEqual(Light((("hold", 1),), (((3, 4),),), 5), Light((("pulse", 1),), (((3, 4),),), 5))
        for other in (Light(BOTH, BOTH_LOGS, 3), Light((), (), 2), light_log(BOTH, BOTH_LOGS, 2), None, 7, "light", []):
            self.assertIs(light == other, False)
            self.assertIs(light != other, True)

    def test_text(self):
        self.assertEqual(str(Light(BOTH, ((), ()), 2)), "")
        self.assertEqual(str(Light((), (), 7)), "             0 1,000,000,007 open")
        self.assertEqual(str(Light((), (), TOP)), "             0 2,000,000,000 open")
        self.assertEqual(str(Light((("hold", 3),), (((1200, 1209),),), 2)), "\n".join([
            "         1,200         1,202 on", "         1,202         1,206 open", "         1,206         1,208 on",
        ]))
        for lamps, logs in SOME:
            rows = [f"{on:>14,}{off:>14,} {state}" for on, off, state in light_log(lamps, logs, 2)]
            self.assertEqual(str(Light(lamps, logs, 2)), "\n".join(rows))

    def test_no_loop(self):
        for lamps, logs in SOME:
            for call in (iter, list, tuple, sorted):
                with self.assertRaises(TypeError):
                    call(Light(lamps, logs, 2))

    def test_properties_can_only_be_read(self):
        light = Light(BOTH, BOTH_LOGS, 2)
        for name in ("sure", "unclear"):
            with self.assertRaises(AttributeError):
                setattr(light, name, 0)
        self.assertEqual((light.sure, light.unclear), (8, 4))

    def test_an_error_changes_nothing(self):
        light = Light(BOTH, BOTH_LOGS, 2)
        check_raises(self, NoMinute(None), light, None)
        check_raises(self, NoIndex(6), lambda: light[6])
        self.assertEqual((light, light.sure, light(5), len(light)), (Light(BOTH, BOTH_LOGS, 2), 8, "open", 6))


if __name__ == "__main__":
    unittest.main()
