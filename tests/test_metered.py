"""Point 62: houses that keep for how many minutes their lamps are on."""

import random
import unittest

from helpers import WRONG, check_raises, soon
from lampstays import errors
from lampstays.errors import BadLamp, NoCount, NoMinute, NotLater, Rejected, TooBright, TooLarge, TooManyEdits
from lampstays.houses import House, MeteredHouse
from model import ALONE, Plan, any_lamps, seen
from stories import BURSTS, SIX, SIX_LOGS

TOP = 10 ** 9
LIMIT = 2 * TOP


class Created(unittest.TestCase):
    def test_caps(self):
        for cap in (None, 0, 1, 1500, LIMIT):
            house = MeteredHouse(("hold", 5), cap=cap)
            self.assertEqual((house.cap, house.burnt), (cap, (0,)))
            self.assertIsInstance(house, House)
        self.assertIsNone(MeteredHouse().cap)
        for cap in (*[value for value in WRONG if value is not None], (), LIMIT + 1, -1, (5,)):
            self.assertIs(check_raises(self, NoCount(cap), lambda: MeteredHouse(("hold", 5), cap=cap)).value, cap)
            check_raises(self, BadLamp(None), lambda: MeteredHouse(("hold", 5), None, cap=cap))
            check_raises(self, TooLarge(6), lambda: MeteredHouse(*[("hold", 5)] * 7, cap=cap))
        check_raises(self, BadLamp(5), MeteredHouse, ("hold", 5), 5)

    def test_after_has_no_cap(self):
        house = MeteredHouse.after(((3, 2, 3),), ("hold", 5))
        self.assertIsNone(house.cap)
        self.assertEqual(house.burnt, (9,))
        self.assertEqual(house.burst(20, 1, TOP // 2), 1)
        with self.assertRaises(TypeError):
            MeteredHouse.after((), ("hold", 5), cap=5)


class Burnt(unittest.TestCase):
    def test_by_the_logs(self):
        self.assertEqual(MeteredHouse.after(BURSTS, *SIX).burnt,
                         tuple(sum(off - on for on, off in log) for log in SIX_LOGS))
        self.assertEqual(MeteredHouse().burnt, ())
        self.assertEqual(soon(lambda: MeteredHouse.after(((0, 1, TOP + 1),), ("hold", TOP), ("pulse", 7)).burnt),
                         (LIMIT, TOP + 1))

    def test_after_every_edit(self):
        house = MeteredHouse(("hold", 5), ("pulse", 3))
        told = [house.burnt]
        for name, *values in (("motion", 3), ("burst", 5, 2, 2), ("fit", ("hold", 4)), ("motion", 20), ("remove", 0),
                              ("undo",), ("undo",), ("undo",), ("undo",), ("undo",)):
            getattr(house, name)(*values)
            told.append(house.burnt)
        self.assertEqual(told, [(0, 0), (5, 3), (9, 6), (9, 6, 0), (14, 9, 4), (9, 4), (14, 9, 4), (9, 6, 0), (9, 6),
                                (5, 3), (0, 0)])

    def test_only_read(self):
        house = MeteredHouse(("hold", 5), cap=9)
        for name in ("burnt", "cap", "many", "moved", "latest_minute"):
            with self.assertRaises(AttributeError):
                setattr(house, name, 3)
        self.assertEqual((house.burnt, house.cap), ((0,), 9))


class Caps(unittest.TestCase):
    def test_just_met_and_just_passed(self):
        for cap, fits in ((7, True), (6, False)):
            for call, args in (("motion", (5,)), ("burst", (5, 1, 1)), ("motion_all", (5,)),
                               ("attempt", ([("motion", 5)],))):
                house = MeteredHouse(("pulse", 2), ("hold", 5), ("hold", 5), cap=cap)
                house.motion(3)
                before = seen(house)
                if fits:
                    self.assertEqual(getattr(house, call)(*args), 2)
                    self.assertEqual(house.burnt, (4, 7, 7))
                else:
                    error = Rejected(0) if call == "attempt" else TooBright(1)
                    check_raises(self, error, getattr(house, call), *args)
                    self.assertEqual(seen(house), before)

    def test_a_cap_of_nothing(self):
        house = MeteredHouse(cap=0)
        self.assertEqual([house.motion(3), house.fit(("hold", 1)), house.fit(("pulse", 1))], [1, 2, 3])
        for call, args in ((house.motion, (5,)), (house.burst, (5, 1, 3))):
            check_raises(self, TooBright(0), call, *args)
        self.assertEqual([house.remove(1), house.remove(0), house.motion(5)], [4, 5, 6])

    def test_the_greatest_cap(self):
        house = MeteredHouse(("hold", TOP), cap=LIMIT)
        self.assertEqual(house.burst(0, 1, TOP + 1), 1)
        house = MeteredHouse(("hold", TOP), cap=LIMIT - 1)
        check_raises(self, TooBright(0), house.burst, 0, 1, TOP + 1)
        self.assertEqual(house.burst(1, 1, TOP), 1)

    def test_the_least_index(self):
        house = MeteredHouse(("hold", 1), ("hold", 4), ("pulse", 9), ("hold", 9), cap=8)
        check_raises(self, TooBright(2), house.motion, 3)
        house.remove(2)
        check_raises(self, TooBright(2), house.motion, 3)
        house.remove(2)
        self.assertEqual(house.burst(3, 2, 3), 3)
        check_raises(self, TooBright(1), house.motion, 50)

    def test_the_last_of_the_errors(self):
        house = MeteredHouse(("hold", 5), cap=5)
        house.motion(3)
        for call, args, error in (
            (house.motion, (None,), NoMinute(None)), (house.motion, (3,), NotLater(3)),
            (house.burst, (2, 0, 1), NoCount(0)), (house.burst, (9, 1, 0), NoCount(0)),
            (house.burst, (9, TOP, 2), NoMinute(TOP + 9)), (house.burst, (3, 9, 2), NotLater(3)),
            (house.motion, (4,), TooBright(0)), (house.burst, (9, 1, 1), TooBright(0)),
            (house.burst, (9, 6, 70), TooLarge(60)),
        ):
            check_raises(self, error, call, *args)
        self.assertEqual(house.burnt, (5,))
        full = MeteredHouse(("hold", 1), cap=60)
        full.motion_all(*[minute for minute, _, _ in ALONE[:59]])
        check_raises(self, TooLarge(60), full.burst, 118, 2, 2)
        check_raises(self, TooBright(0), full.burst, 118, 1, 2)
        full.motion(118)
        check_raises(self, TooManyEdits(), full.motion, 119)

    def test_motion_all(self):
        house = MeteredHouse(("pulse", 3), ("hold", 5), cap=8)
        before = seen(house)
        check_raises(self, TooBright(1), house.motion_all, 3, 6, 7, None)
        check_raises(self, NoMinute(None), house.motion_all, 3, 6, None, 7)
        self.assertEqual(seen(house), before)
        self.assertEqual(house.motion_all(3, 6), 2)
        self.assertEqual(house.burnt, (6, 8))

    def test_attempt(self):
        house = MeteredHouse(("pulse", 3), ("hold", 5), cap=8)
        before, told = seen(house), []
        check_raises(self, Rejected(2), lambda: house.attempt(
            [("motion", 3), ("burst", 5, 1, 2), ("motion", 7), ("remove", 1)],
            on_step=lambda given: told.append(given.burnt)))
        self.assertEqual((told, seen(house)), ([(3, 5), (6, 8)], before))
        self.assertEqual(house.attempt([("motion", 3), ("remove", 1), ("motion", 7), ("fit", ("hold", 9))]), 4)
        self.assertEqual(house.burnt, (6, 0))

    def test_lamps_that_are_fitted_later(self):
        house = MeteredHouse(("hold", 4), cap=9)
        house.motion_all(0, 3)
        house.fit(("hold", 4))
        house.remove(0)
        self.assertEqual([house.motion(6), house.burnt], [5, (4,)])
        self.assertEqual([house.motion(15), house.burnt], [6, (8,)])
        check_raises(self, TooBright(0), house.motion, 17)
        self.assertEqual([house.motion(16), house.burnt], [7, (9,)])

    def test_undo_gives_minutes_back(self):
        house = MeteredHouse(("hold", 5), cap=5)
        house.motion(3)
        check_raises(self, TooBright(0), house.motion, 20)
        house.undo()
        self.assertEqual([house.motion(20), house.burnt], [1, (5,)])

    def test_copies(self):
        house = MeteredHouse(("hold", 5), cap=7)
        house.motion(3)
        twin = house.copy()
        self.assertEqual((type(twin), twin.cap, twin.burnt), (MeteredHouse, 7, (5,)))
        check_raises(self, TooBright(0), twin.motion, 6)
        self.assertEqual([twin.motion(5), twin.burnt, house.burnt], [2, (7,), (5,)])
        self.assertIsNone(MeteredHouse.after(((3, 1, 1),), ("hold", 5)).copy().cap)

    def test_many_edits_in_any_order(self):
        for seed in range(25):
            choice = random.Random(seed)
            cap = choice.randrange(40)
            lamps = any_lamps(choice, 4, 9)
            house, edits = MeteredHouse(*lamps, cap=cap), []
            for _ in range(20):
                plan = Plan(lamps, (), edits)
                minute = 10 * len(edits) + choice.randrange(12)
                edit = choice.choice((
                    ("motion", minute), ("burst", minute, choice.randrange(1, 4), choice.randrange(5)),
                    ("fit", ("pulse", choice.randrange(1, 5))), ("remove", choice.randrange(3)),
                ))
                name, *values = edit
                expected = plan.error(edit, len(edits), cap)
                if expected is None:
                    edits.append(edit)
                    self.assertEqual(getattr(house, name)(*values), len(edits))
                else:
                    check_raises(self, getattr(errors, expected[0])(expected[1]), getattr(house, name), *values)
                    check_raises(self, Rejected(0), house.attempt, [edit])
                self.assertEqual(house.burnt, Plan(lamps, (), edits).burnt())


class Texts(unittest.TestCase):
    def test_always_with_these_words(self):
        house = MeteredHouse()
        self.assertEqual(str(house), "0 lamps, 0 motions, 0 edits, 0 minutes")
        house.fit(("hold", 1))
        house.motion(0)
        self.assertEqual(str(house), "1 lamps, 1 motions, 2 edits, 1 minutes")
        house.fit(("pulse", 999))
        house.motion(5)
        self.assertEqual(str(house), "2 lamps, 2 motions, 4 edits, 1,001 minutes")
        house = MeteredHouse.after(((0, 1, TOP + 1),), *[("hold", TOP)] * 6)
        self.assertEqual(str(house), "6 lamps, 1,000,000,001 motions, 0 edits, 12,000,000,000 minutes")


if __name__ == "__main__":
    unittest.main()
