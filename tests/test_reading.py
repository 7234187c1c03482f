"""Point 24: what logs tell about all minutes, as an object."""

import unittest

from helpers import HUGE, WRONG, check_raises, soon
from lampstays.errors import NoIndex, NoMinute, OtherCount, Unexplained
from lampstays.facts import Reading, possible_spans, state_of
from stories import BOTH, BOTH_LOGS, DAY, DAY_LOGS, SIX, SIX_LOGS

TOP = 10 ** 9
SOME = ((BOTH, BOTH_LOGS), ((), ()), (BOTH, ((), ())), (DAY, DAY_LOGS), (SIX, SIX_LOGS))


class Readings(unittest.TestCase):
    def test_spans_and_possible(self):
        for lamps, logs in SOME:
            reading = Reading(lamps, logs)
            self.assertEqual(reading.spans, possible_spans(lamps, logs))
            self.assertEqual(reading.possible, sum(last - first + 1 for first, last in reading.spans))
            self.assertEqual(len(reading), len(reading.spans))
            self.assertIs(bool(reading), reading.spans != ())
        self.assertEqual([Reading(*pair).possible for pair in SOME[:4]], [8, TOP + 1, 0, TOP - 2])

    def test_properties_can_only_be_read(self):
        reading = Reading(BOTH, BOTH_LOGS)
        with self.assertRaises(AttributeError):
            reading.spans = ()
        with self.assertRaises(AttributeError):
            reading.possible = 0
        self.assertEqual((reading.spans, reading.possible), (((3, 5), (7, 7), (20, 22), (24, 24)), 8))

    def test_called(self):
        for lamps, logs in SOME:
            reading = Reading(lamps, logs)
            for minute in (*range(30), TOP - 4, TOP - 3, TOP - 2, TOP):
                self.assertEqual(soon(lambda: reading(minute)), state_of(lamps, logs, minute))

    def test_called_with_other_values(self):
        for value in (*WRONG, (), TOP + 1):
            self.assertIs(check_raises(self, NoMinute(value), Reading(BOTH, BOTH_LOGS), value).value, value)

    def test_in(self):
        reading = Reading(BOTH, BOTH_LOGS)
        self.assertEqual([minute for minute in range(-3, 40) if minute in reading], [3, 4, 5, 7, 20, 21, 22, 24])
        everything = Reading((), ())
        self.assertEqual([value in everything for value in (-1, 0, TOP, TOP + 1, HUGE, -HUGE)],
                         [False, True, True, False, False, False])
        for value in (*WRONG, (), (0, TOP)):
            self.assertIs(value in everything, False)

    def test_items(self):
        for lamps, logs in SOME:
            reading = Reading(lamps, logs)
            self.assertEqual([reading[index] for index in range(len(reading))], list(reading.spans))
            for index in (*WRONG, len(reading), len(reading) + 1, -len(reading) - 1, (0,), slice(0, 1)):
                self.assertIs(check_raises(self, NoIndex(index), lambda: reading[index]).index, index)

    def test_no_loop(self):
        for lamps, logs in SOME:
            for call in (iter, list, tuple, sorted):
                with self.assertRaises(TypeError):
                    call(Reading(lamps, logs))

    def test_errors(self):
        check_raises(self, OtherCount(1), Reading, (), (((0, 4),),))
        check_raises(self, OtherCount(0), Reading, (("pulse", 3),), ())
        check_raises(self, Unexplained(("stretch", 0, 0)), Reading, (("pulse", 3),), (((0, 4),),))
        check_raises(self, Unexplained(("sure", 0, 7, 1)), Reading, (("hold", 5), ("hold", 2)), (((3, 12),), ((3, 5),)))
        check_raises(self, Unexplained(("call", 0, 2, 1)), Reading, (("hold", 3), ("pulse", 2)),
                     (((0, 9),), ((0, 2), (6, 8))))

    def test_an_error_changes_nothing(self):
        reading = Reading(BOTH, BOTH_LOGS)
        check_raises(self, NoMinute(None), reading, None)
        check_raises(self, NoIndex(4), lambda: reading[4])
        self.assertEqual((reading.spans, reading.possible, reading(4)), (possible_spans(BOTH, BOTH_LOGS), 8, "open"))


if __name__ == "__main__":
    unittest.main()
