"""Points 52 to 58: houses, their edits and the errors of these, undo, and what a house tells of its versions."""

import random
import unittest

from helpers import HUGE, WRONG, check_raises, soon
from lampstays import errors
from lampstays.errors import (
    BadLamp, BadMotions, NoCount, NoIndex, NoMinute, NotLater, NothingToUndo, NoVersion, TooLarge, TooMany,
    TooManyEdits,
)
from lampstays.houses import House
from lampstays.lamps import log_of, motions_error
from model import ALONE, KINDS, Plan, any_lamps, seen
from stories import BURSTS, SIX, SIX_LOGS

TOP = 10 ** 9


class Created(unittest.TestCase):
    def test_with_lamps(self):
        for shape in KINDS:
            for lamps in ((), (("hold", 5),), SIX, (("pulse", 1),) * 6):
                house = shape(*lamps)
                self.assertEqual(house.lamps(), lamps)
                self.assertEqual(house.motions(), ())
                self.assertEqual(house.logs(), ((),) * len(lamps))
                self.assertEqual(house.edits(), ())
                self.assertEqual((house.many, house.moved, house.latest_minute, len(house)), (len(lamps), 0, None, 0))

    def test_values_that_are_no_lamps(self):
        lamp = ("hold", 5)
        for shape in KINDS:
            for value in (*WRONG, (), ("hold", 0), ("hold", True), ["hold", 5], ("Hold", 5), House(), shape(lamp)):
                self.assertIs(check_raises(self, BadLamp(value), shape, value).value, value)
                check_raises(self, BadLamp(value), shape, lamp, value, None)
                check_raises(self, BadLamp(value), shape, *[lamp] * 9, value)
                check_raises(self, BadLamp(value), shape.after, None, lamp, value)
            check_raises(self, TooLarge(6), shape, *[lamp] * 7)
            check_raises(self, TooLarge(6), shape.after, None, *[lamp] * 7)

    def test_after(self):
        for shape in KINDS:
            house = shape.after(BURSTS, *SIX)
            self.assertIs(type(house), shape)
            self.assertEqual((house.lamps(), house.motions(), house.logs()), (SIX, BURSTS, SIX_LOGS))
            self.assertEqual((house.edits(), len(house), house.moved), ((), 0, sum(run[2] for run in BURSTS)))
            self.assertEqual(house.latest_minute, BURSTS[-1][0] + BURSTS[-1][1] * (BURSTS[-1][2] - 1))
            check_raises(self, NothingToUndo(), house.undo)
            self.assertEqual(shape.after(()), shape())

    def test_after_other_values(self):
        order, full = ((5, 1, 1), (5, 1, 1)), tuple((at, 1, 1) for at in range(361))
        for shape in KINDS:
            for value in (*[value for value in WRONG if value != ()], [(3, 2, 3)], ((3, 2, 1),), order, full, shape()):
                error = check_raises(self, BadMotions(motions_error(value)), shape.after, value, ("hold", 5))
                self.assertIsNotNone(error.error)
            check_raises(self, TooLarge(60), shape.after, ((0, 2, 61),), ("hold", 1))
            check_raises(self, TooLarge(60), shape.after, ((0, 2, 61),), ("hold", 2), ("pulse", 1))
            self.assertEqual(shape.after(((0, 2, 60),), ("hold", 1)).logs()[0], log_of(("hold", 1), ((0, 2, 60),)))
            self.assertEqual(shape.after(((0, 2, 61),)).moved, 61)

    def test_limit_and_is_run(self):
        for shape in KINDS:
            for owner in (shape, shape()):
                self.assertIs(type(owner.LIMIT), int)
                self.assertEqual(owner.LIMIT, 60)
                for value, expected in (((3, 2, 3), True), ((3, 1, 1), True), ((TOP, 1, 1), True), ((3, 2, 1), False),
                                        ((TOP, 1, 2), False), ((3, True, 3), False), ([3, 2, 3], False), (None, False)):
                    self.assertIs(owner.is_run(value), expected)
                for value in WRONG:
                    self.assertIs(owner.is_run(value), False)


class Edits(unittest.TestCase):
    def check(self, house, start, edits, cap=None):
        """The house tells just what follows from these edits, at each of its versions."""
        for version in (*range(len(edits) + 1), None):
            plan = Plan(*start, edits[:version])
            self.assertEqual(house.lamps(version=version), plan.lamps())
            self.assertEqual(house.motions(version=version), plan.runs)
            self.assertEqual(house.logs(version=version), plan.logs())
        self.assertEqual(house.edits(), tuple(edits))
        self.assertEqual((len(house), house.many), (len(edits), len(plan.fitted)))

    def edit(self, choice, plan):
        """Some edit, possible or not."""
        last = plan.runs[-1][0] + plan.runs[-1][1] * (plan.runs[-1][2] - 1) if plan.runs else 0
        name = choice.choice(("motion", "motion", "burst", "burst", "fit", "remove"))
        minute = choice.choice((last + 1, last + 2, last + 5, last + 9, last, 0, choice.choice(WRONG)))
        if name == "motion":
            return name, minute
        if name == "burst":
            return name, minute, choice.choice((1, 2, 3, 7, 0, None)), choice.choice((1, 1, 2, 3, 8, True))
        if name == "fit":
            return name, choice.choice((("hold", choice.randrange(1, 9)), ("pulse", choice.randrange(1, 9)), None))
        return name, choice.choice((0, 1, 2, len(plan.fitted) - 1, len(plan.fitted), -1, True))

    def test_many_edits_in_any_order(self):
        for seed in range(40):
            choice = random.Random(seed)
            lamps = any_lamps(choice, 4, 9)
            motions = () if seed % 3 else ((1, 2, 5), (14, 1, 1))
            house, edits = KINDS[seed % 2].after(motions, *lamps), []
            for _ in range(30):
                plan = Plan(lamps, motions, edits)
                edit = self.edit(choice, plan)
                name, *values = edit
                expected = plan.error(edit, len(edits))
                if choice.random() < 0.15 and edits:
                    edits.pop()
                    self.assertEqual(house.undo(), len(edits))
                elif expected is None:
                    edits.append(edit)
                    self.assertEqual(getattr(house, name)(*values), len(edits))
                else:
                    before = seen(house)
                    fields = [] if expected[1] is None and expected[0] == "TooManyEdits" else [expected[1]]
                    check_raises(self, getattr(errors, expected[0])(*fields), getattr(house, name), *values)
                    self.assertEqual(seen(house), before)
            self.check(house, (lamps, motions), edits)

    def test_lamps_see_only_what_comes_behind_them(self):
        for shape in KINDS:
            house = shape(("hold", 5))
            house.burst(0, 2, 4)
            house.fit(("hold", 5))
            house.fit(("pulse", 3))
            self.assertEqual(house.logs(), (((0, 11),), (), ()))
            house.motion(8)
            self.assertEqual(house.logs(), (((0, 13),), ((8, 13),), ((8, 11),)))
            house.remove(0)
            house.fit(("hold", 1))
            house.burst(10, 1, 3)
            self.assertEqual(house.logs(), (((8, 17),), ((8, 14),), ((10, 13),)))
            self.check(house, ((("hold", 5),), ()), list(house.edits()))

    def test_a_pulse_lamp_that_was_fitted_later(self):
        house = House(("pulse", 4))
        house.motion_all(0, 3)
        house.fit(("pulse", 4))
        house.motion_all(5, 7)
        self.assertEqual(house.logs(), (((0, 4), (5, 9)), ((5, 9),)))

    def test_remove(self):
        lamps = tuple(("hold", stay) for stay in range(1, 7))
        for index in range(6):
            house = House.after(((3, 1, 1),), *lamps)
            self.assertEqual(house.remove(index), 1)
            self.assertEqual(house.lamps(), lamps[:index] + lamps[index + 1:])
            self.assertEqual(house.logs(), tuple(((3, 3 + stay),) for _, stay in house.lamps()))
            self.assertEqual(house.fit(("pulse", 9)), 2)
            self.assertEqual(house.logs()[-1], ())
            for value in (*WRONG, 6, (0,)):
                self.assertIs(check_raises(self, NoIndex(value), house.remove, value).index, value)
        house = House(("hold", 1))
        house.remove(0)
        self.assertEqual((house.lamps(), house.logs()), ((), ()))
        check_raises(self, NoIndex(0), house.remove, 0)

    def test_fit(self):
        house = House()
        for value in (*WRONG, (), ("hold", 0), ("hold", TOP + 1), ["hold", 5], ("hold", 5, 5), house):
            self.assertIs(check_raises(self, BadLamp(value), house.fit, value).value, value)
        for count in range(6):
            self.assertEqual(house.fit(("pulse", count + 1)), count + 1)
        check_raises(self, TooLarge(6), house.fit, ("hold", 1))
        check_raises(self, BadLamp(None), house.fit, None)
        self.assertEqual(house.remove(3), 7)
        self.assertEqual(house.fit(("hold", 1)), 8)

    def test_the_errors_of_motions_in_their_order(self):
        for shape in KINDS:
            house = shape.after(((3, 2, 3),), ("hold", 5))
            for value in (*WRONG, (), TOP + 1):
                self.assertIs(check_raises(self, NoMinute(value), house.motion, value).value, value)
                check_raises(self, NoMinute(value), house.burst, value, None, None)
            for value in (*WRONG, (), 0):
                if value != HUGE:
                    self.assertIs(check_raises(self, NoCount(value), house.burst, 0, value, None).value, value)
                    self.assertIs(check_raises(self, NoCount(value), house.burst, 0, HUGE, value).value, value)
            check_raises(self, NoCount(0), house.burst, 20, 0, 0)
            check_raises(self, NoCount(0), house.burst, 20, 5, 0)
            check_raises(self, NoCount(-1), house.burst, 20, -1, 10 ** 9)
            check_raises(self, NoMinute(TOP + 1), house.burst, 0, TOP + 1, 2)
            check_raises(self, NoMinute(TOP + 1), house.burst, 7, 1, TOP - 5)
            check_raises(self, NoMinute(3 + HUGE * (HUGE - 1)), house.burst, 3, HUGE, HUGE)
            for minute in (0, 3, 6, 7):
                check_raises(self, NotLater(minute), house.motion, minute)
                check_raises(self, NotLater(minute), house.burst, minute, 1, 50)
            self.assertEqual(house.motion(8), 1)
            self.assertEqual(house.burst(TOP, HUGE, 1), 2)
            self.assertEqual(house.edits(), (("motion", 8), ("burst", TOP, HUGE, 1)))
            self.assertEqual(house.motions(), ((3, 2, 3), (8, 1, 1), (TOP, 1, 1)))
            check_raises(self, NotLater(TOP), house.motion, TOP)

    def test_motions_at_the_edges(self):
        house = House(("hold", TOP), ("pulse", TOP))
        self.assertEqual(house.burst(0, 1, TOP + 1), 1)
        self.assertEqual((house.moved, house.latest_minute), (TOP + 1, TOP))
        self.assertEqual(house.logs(), (((0, 2 * TOP),), ((0, 2 * TOP),)))
        house = House()
        self.assertEqual([house.motion(0), house.burst(1, TOP - 1, 2)], [1, 2])
        self.assertEqual(house.latest_minute, TOP)

    def test_runs(self):
        runs = tuple((2 * at, 1, 1) for at in range(359))
        for shape in KINDS:
            house = shape.after(runs, ("hold", 9))
            self.assertEqual(house.motion(718), 1)
            for call, args in ((house.motion, (720,)), (house.burst, (720, 1, 5))):
                check_raises(self, TooMany(360), call, *args)
            check_raises(self, NotLater(718), house.motion, 718)
            check_raises(self, NoCount(0), house.burst, 720, 1, 0)
            self.assertEqual(house.fit(("pulse", 1)), 2)
            check_raises(self, TooMany(360), house.motion, 720)
            house.undo()
            house.undo()
            self.assertEqual(house.burst(718, 1, 1000), 1)
        full = House.after((*runs, (718, 1, 1)), ("hold", 2))
        check_raises(self, TooMany(360), full.burst, 720, 3, 70)

    def test_stretches(self):
        for shape in KINDS:
            house = shape.after(ALONE[:59], ("hold", 2), ("pulse", 1))
            check_raises(self, TooLarge(60), house.burst, 118, 2, 2)
            check_raises(self, TooLarge(60), house.burst, 200, 2, TOP // 3)
            self.assertEqual(house.motion(118), 1)
            check_raises(self, TooLarge(60), house.motion, 120)
            self.assertEqual(house.remove(1), 2)
            self.assertEqual(house.burst(120, 2, TOP // 3), 3)
            self.assertEqual(len(house.logs()[0]), 1)
            self.assertEqual(house.fit(("hold", 1)), 4)
            check_raises(self, TooLarge(60), house.burst, TOP - 200, 2, 61)
            self.assertEqual(house.burst(TOP - 200, 2, 60), 5)

    def test_how_many_edits_may_stand(self):
        for shape in KINDS:
            house = shape(("hold", 5))
            for at in range(60):
                self.assertEqual(house.motion(at), at + 1)
            before = seen(house)
            for call, args in ((house.motion, (60,)), (house.motion, (None,)), (house.burst, (None, None, None)),
                               (house.fit, (None,)), (house.remove, (None,)), (house.motion_all, (60,))):
                check_raises(self, TooManyEdits(), call, *args)
            self.assertEqual(seen(house), before)
            self.assertEqual(house.motion_all(), 60)
            self.assertEqual(house.undo(), 59)
            self.assertEqual(house.remove(0), 60)
            check_raises(self, TooManyEdits(), house.fit, ("hold", 1))

    def test_long_times(self):
        house = House.after(((0, 1, TOP),), *SIX)
        self.assertEqual(soon(lambda: house.motion(TOP)), 1)
        self.assertEqual(soon(lambda: house.logs()[0]), ((0, TOP + 9),))
        self.assertEqual(house.moved, TOP + 1)


class MotionAll(unittest.TestCase):
    def test_each_is_an_edit_of_its_own(self):
        for shape in KINDS:
            house = shape(("hold", 5))
            self.assertEqual(house.motion_all(3, 9, 14), 3)
            self.assertEqual(house.edits(), (("motion", 3), ("motion", 9), ("motion", 14)))
            self.assertEqual(house.logs(version=2), (((3, 8), (9, 14)),))
            self.assertEqual([house.undo(), house.motion_all(), house.motion_all(10)], [2, 2, 3])
            self.assertEqual(house.motions(), ((3, 1, 1), (9, 1, 1), (10, 1, 1)))

    def test_nothing_changes_after_an_error(self):
        for shape in KINDS:
            house = shape(("hold", 1))
            house.motion(3)
            before = seen(house)
            for minutes, error in (
                ((3,), NotLater(3)), ((4, 9, 9, None), NotLater(9)), ((4, None, 2), NoMinute(None)),
                ((4, True), NoMinute(True)), ((4, TOP + 1), NoMinute(TOP + 1)), ((9, [10], 8), NoMinute([10])),
                (range(5, 65), TooManyEdits()), (range(5, 200, 2), TooManyEdits()), (([4], None), NoMinute([4])),
            ):
                check_raises(self, error, house.motion_all, *minutes)
                self.assertEqual(seen(house), before)
            self.assertEqual(house.motion_all(*range(5, 64)), 60)

    def test_too_large_in_the_middle(self):
        house = House.after(ALONE[:58], ("pulse", 1))
        before = seen(house)
        check_raises(self, TooLarge(60), house.motion_all, 116, 118, 119, 121, None)
        self.assertEqual(seen(house), before)
        self.assertEqual(house.motion_all(116, 118, 119), 3)
        house = House.after(tuple((at, 1, 1) for at in range(358)))
        check_raises(self, TooMany(360), house.motion_all, 400, 401, 402, None)
        self.assertEqual(house.motion_all(400, 401), 2)


class Undo(unittest.TestCase):
    def test_back_to_the_start_and_on_from_there(self):
        for shape in KINDS:
            house = shape.after(((1, 1, 3),), ("hold", 2), ("pulse", 9))
            states = [seen(house)]
            for name, *values in (("motion", 9), ("fit", ("hold", 4)), ("burst", 12, 3, 5), ("remove", 0),
                                  ("motion", 40), ("remove", 1), ("burst", 90, 7, 1)):
                getattr(house, name)(*values)
                states.append(seen(house))
            for version in range(6, -1, -1):
                self.assertEqual(house.undo(), version)
                self.assertEqual(seen(house), states[version])
            check_raises(self, NothingToUndo(), house.undo)
            self.assertEqual(seen(house), states[0])
            self.assertEqual([house.motion(4), house.logs(), house.undo()], [1, (((1, 6),), ((1, 10),)), 0])

    def test_a_lamp_comes_back_as_it_was(self):
        house = House(("hold", 5), ("pulse", 3))
        house.motion_all(3, 9)
        logs = house.logs()
        house.remove(0)
        house.undo()
        house.motion(20)
        self.assertEqual(house.logs(), (logs[0] + ((20, 25),), logs[1] + ((20, 23),)))


class Versions(unittest.TestCase):
    def test_versions_that_there_are_not(self):
        for shape in KINDS:
            house = shape(("hold", 5))
            house.motion_all(3, 9)
            for call in (house.lamps, house.motions, house.logs):
                for value in (*[value for value in WRONG if value is not None], 3, 60, (), (0,), "0"):
                    error = check_raises(self, NoVersion(value), lambda: call(version=value))
                    self.assertIs(error.version, value)
                self.assertEqual(call(version=2), call())
                self.assertEqual(call(version=None), call())
            house.undo()
            check_raises(self, NoVersion(2), lambda: house.motions(version=2))
            house.fit(("pulse", 2))
            self.assertEqual(house.lamps(version=2), (("hold", 5), ("pulse", 2)))
            check_raises(self, NoVersion(False), lambda: shape().lamps(version=False))

    def test_arguments_are_passed_by_keyword(self):
        for call in (House().lamps, House().motions, House().logs):
            self.assertRaises(TypeError, call, 0)

    def test_results_stay_as_they_are(self):
        house = House(("hold", 5))
        results = (house.lamps(), house.motions(), house.logs(), house.edits())
        house.motion_all(1, 2)
        house.fit(("hold", 1))
        self.assertEqual(results, ((("hold", 5),), (), ((),), ()))
        for result in (house.lamps(), house.motions(), house.logs(), house.edits()):
            self.assertIs(type(result), tuple)


class Properties(unittest.TestCase):
    def test_up_to_date(self):
        for shape in KINDS:
            house = shape(("hold", 5))
            told = [(house.many, house.moved, house.latest_minute)]
            for name, *values in (("burst", 3, 4, 1500), ("fit", ("pulse", 1)), ("motion", 7000), ("remove", 0),
                                  ("remove", 0), ("undo",), ("undo",), ("undo",), ("undo",), ("undo",)):
                getattr(house, name)(*values)
                told.append((house.many, house.moved, house.latest_minute))
            self.assertEqual(told, [
                (1, 0, None), (1, 1500, 5999), (2, 1500, 5999), (2, 1501, 7000), (1, 1501, 7000), (0, 1501, 7000),
                (1, 1501, 7000), (2, 1501, 7000), (2, 1500, 5999), (1, 1500, 5999), (1, 0, None),
            ])

    def test_only_read(self):
        for shape in KINDS:
            house = shape(("hold", 5))
            for name in ("many", "moved", "latest_minute"):
                with self.assertRaises(AttributeError):
                    setattr(house, name, 3)
            self.assertEqual((house.many, house.moved, house.latest_minute), (1, 0, None))


if __name__ == "__main__":
    unittest.main()
