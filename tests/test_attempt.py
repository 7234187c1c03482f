"""Point 60: batches of edits, and houses that are in the middle of one."""

import random
import unittest

from helpers import HUGE, WRONG, check_raises
from lampstays.errors import (
    BadBatch, BadLamp, Busy, LampError, NoMinute, NothingToUndo, NoVersion, Rejected, TooManyEdits,
)
from lampstays.houses import House, MeteredHouse
from lampstays.shells import Shell
from model import ALONE, KINDS, Plan, seen

TOP = 10 ** 9
GOOD = [("motion", 3), ("burst", 9, 2, 4), ("fit", ("pulse", 2)), ("remove", 0), ("motion", 30)]


class Stop(Exception):
    pass


def start(shape):
    house = shape(("hold", 5), ("pulse", 3))
    house.motion(1)
    return house


class Done(unittest.TestCase):
    def test_lists_and_tuples(self):
        for shape in KINDS:
            for batch in (GOOD, tuple(GOOD)):
                house, other = start(shape), start(shape)
                self.assertEqual(house.attempt(batch), 6)
                for name, *values in GOOD:
                    getattr(other, name)(*values)
                self.assertEqual(seen(house), seen(other))
                self.assertEqual(house.edits(), (("motion", 1), *GOOD))

    def test_each_can_be_undone_by_itself(self):
        house, states = start(House), []
        states.append(seen(house))
        house.attempt(GOOD, on_step=lambda house: states.append(seen(house)))
        for state in states[-2::-1]:
            house.undo()
            self.assertEqual(seen(house), state)

    def test_no_edits(self):
        for shape in KINDS:
            for batch in ([], ()):
                house = start(shape)
                self.assertEqual(house.attempt(batch), 1)
                self.assertEqual(house.attempt(batch, on_step=lambda house: self.fail()), 1)
                self.assertEqual(house.motion(8), 2)

    def test_as_many_as_may_be(self):
        for shape in KINDS:
            house = start(shape)
            batch = [("motion", 5 + at) for at in range(20)]
            self.assertEqual(house.attempt(batch), 21)
            before = seen(house)
            more = [("motion", 50 + at) for at in range(21)]
            check_raises(self, BadBatch(), house.attempt, more)
            check_raises(self, BadBatch(), house.attempt, tuple(more))
            check_raises(self, BadBatch(), house.attempt, [None] * 21)
            self.assertEqual(seen(house), before)
            self.assertEqual(house.attempt(more[:20]), 41)
            self.assertEqual(house.attempt([("motion", 100 + at) for at in range(19)]), 60)

    def test_the_edits_stand_as_they_were_passed(self):
        house = House()
        house.attempt([("burst", 3, HUGE, 1), ("fit", ("hold", 2))])
        self.assertEqual(house.edits(), (("burst", 3, HUGE, 1), ("fit", ("hold", 2))))
        self.assertEqual(house.motions(), ((3, 1, 1),))


class BadBatches(unittest.TestCase):
    def test_values_that_are_no_batches(self):
        wrong = [value for value in WRONG if value not in ((), [])]
        for shape in KINDS:
            house = start(shape)
            before = seen(house)
            for value in (*wrong, "motion", {"motion": 3}, ("motion", 3), ["motion"], house, start):
                check_raises(self, BadBatch(), house.attempt, value)
                self.assertEqual(seen(house), before)

    def test_items_that_are_no_edits(self):
        wrong = [
            None, True, 3, "motion", [], ["motion", 3], {}, {"motion": 3}, (), ("motion",), ("motion", 3, 4),
            ("burst", 3), ("burst", 3, 1), ("burst", 3, 1, 1, 1), ("fit",), ("fit", "hold", 5), ("remove",),
            ("remove", 0, 0), ("undo",), ("copy",), ("motion_all", 3), ("attempt", []), ("Motion", 3), ("motion ", 3),
            ("", 3), (None, 3), (True, 3), (3, "motion"), (["motion"], 3), (("motion",), 3), ({}, 3), (b"motion", 3),
            (("motion", 3),), ("lamps",), ("_do", 3),
        ]
        house = start(House)
        before = seen(house)
        for item in wrong:
            for batch in ([item], (item,), [("motion", 5), item], [item, ("motion", 5)], [("motion", None), item],
                          [("motion", 5)] * 19 + [item]):
                check_raises(self, BadBatch(), lambda: house.attempt(batch, on_step=lambda house: self.fail()))
        self.assertEqual(seen(house), before)

    def test_arguments_may_be_any_values(self):
        for value in (*WRONG, (), House()):
            for edit in (("motion", value), ("burst", value, value, value), ("fit", value), ("remove", value)):
                check_raises(self, Rejected(0), start(House).attempt, [edit])


class Failed(unittest.TestCase):
    def test_at_each_place(self):
        wrong = (("motion", 1), ("motion", None), ("burst", 40, 0, 3), ("burst", 40, 3, TOP), ("fit", ["hold", 5]),
                 ("remove", 7), ("remove", True), ("burst", 40, 2, 61), ("motion", "40"))
        for shape in KINDS:
            for edit in wrong:
                for index in range(len(GOOD) + 1):
                    house = shape.after(ALONE[:1], ("hold", 1), ("pulse", 1), ("hold", 1))
                    house.motion(2)
                    before, steps = seen(house), []
                    batch = GOOD[:index] + [edit] + GOOD[index:]
                    check_raises(self, Rejected(index),
                                 lambda: house.attempt(batch, on_step=lambda house: steps.append(len(house))))
                    self.assertEqual(seen(house), before)
                    self.assertEqual(steps, list(range(2, index + 2)))
                    self.assertEqual(house.motion(5), 2)

    def test_too_many_edits(self):
        house = House()
        house.motion_all(*range(50))
        before = seen(house)
        check_raises(self, Rejected(10), house.attempt, [("motion", 60 + at) for at in range(12)])
        self.assertEqual(seen(house), before)
        self.assertEqual(house.attempt([("motion", 60 + at) for at in range(10)]), 60)
        check_raises(self, Rejected(0), house.attempt, [("remove", 0)])
        check_raises(self, TooManyEdits(), house.remove, None)
        self.assertEqual(house.attempt([]), 60)

    def test_what_stands_before_can_still_be_undone(self):
        house = start(House)
        check_raises(self, Rejected(1), house.attempt, [("motion", 3), ("motion", 3)])
        self.assertEqual([house.undo(), house.edits()], [0, ()])
        check_raises(self, NothingToUndo(), house.undo)


class Steps(unittest.TestCase):
    def test_the_house_and_its_states(self):
        for shape in KINDS:
            house, edits, told = start(shape), [("motion", 1)], []

            def step(given):
                self.assertIs(given, house)
                edits.append(GOOD[len(told)])
                plan = Plan((("hold", 5), ("pulse", 3)), (), edits)
                self.assertEqual((house.lamps(), house.motions(), house.logs()), (plan.lamps(), plan.runs, plan.logs()))
                self.assertEqual((len(house), house.edits(), house.many), (len(edits), tuple(edits), len(plan.fitted)))
                self.assertEqual(house.lamps(version=len(edits)), plan.lamps())
                check_raises(self, NoVersion(len(edits) + 1), lambda: house.logs(version=len(edits) + 1))
                self.assertEqual(list(house.each_change()), list(house.copy().each_change()))
                told.append(len(house))
                return Stop

            self.assertEqual(house.attempt(GOOD, on_step=step), 6)
            self.assertEqual(told, [2, 3, 4, 5, 6])

    def test_an_exception_goes_on_and_nothing_stands(self):
        for shape in KINDS:
            for error in (Stop("here"), ValueError(3), KeyError("a"), Busy(), Rejected(7), BadLamp(None),
                          KeyboardInterrupt(), NoMinute(9), StopIteration()):
                for last in range(1, 6):
                    house, steps = start(shape), []
                    before = seen(house)

                    def step(given):
                        steps.append(given)
                        if len(steps) == last:
                            raise error

                    with self.assertRaises(type(error)) as caught:
                        house.attempt(GOOD, on_step=step)
                    self.assertIs(caught.exception, error)
                    self.assertEqual(len(steps), last)
                    self.assertEqual(seen(house), before)
                    self.assertEqual(house.attempt(GOOD), 6)

    def test_busy(self):
        for shape in KINDS:
            house, errors = start(shape), []

            def step(given):
                for call in (
                    lambda: given.motion(90), lambda: given.motion(None), lambda: given.burst(None, None, None),
                    lambda: given.fit(None), lambda: given.remove(None), lambda: given.motion_all(),
                    lambda: given.motion_all(None), lambda: given.undo(), lambda: given.attempt([]),
                    lambda: given.attempt(None), lambda: given.attempt([("motion", 90)], on_step=step),
                ):
                    before = seen(given)
                    errors.append(check_raises(self, Busy(), call))
                    self.assertEqual(seen(given), before)
                self.assertEqual(Shell(given).execute("motion 90"), "error Busy")
                self.assertEqual(Shell(given).execute("undo"), "error Busy")

            self.assertEqual(house.attempt(GOOD, on_step=step), 6)
            self.assertEqual(len(errors), 11 * len(GOOD))
            self.assertEqual([house.motion(90), house.undo()], [7, 6])

    def test_busy_that_is_not_caught(self):
        for call in (lambda house: house.undo(), lambda house: house.motion(90), lambda house: house.attempt(GOOD)):
            house = start(House)
            before = seen(house)
            check_raises(self, Busy(), lambda: house.attempt(GOOD, on_step=call))
            self.assertEqual(seen(house), before)
            self.assertEqual(house.motion(3), 2)

    def test_busy_although_no_edit_may_stand_any_more(self):
        house = House()
        house.motion_all(*range(59))
        house.attempt([("motion", 70)], on_step=lambda given: check_raises(self, Busy(), given.motion, None))
        self.assertEqual(len(house), 60)

    def test_copies(self):
        for shape in KINDS:
            house, copies = start(shape), []

            def step(given):
                twin = given.copy()
                self.assertIs(type(twin), shape)
                self.assertEqual(seen(twin), seen(given))
                self.assertEqual(twin.motion(50), len(given) + 1)
                self.assertEqual([twin.undo(), twin.undo()], [len(given), len(given) - 1])
                twin.attempt([("fit", ("hold", 1))])
                copies.append(twin)

            house.attempt(GOOD, on_step=step)
            self.assertEqual([len(twin) for twin in copies], [2, 3, 4, 5, 6])
            self.assertEqual(len(house), 6)

    def test_other_houses(self):
        house, other = start(House), start(MeteredHouse)

        def step(given):
            other.motion(100 + len(given))
            other.attempt([("motion", 200 * len(given))], on_step=lambda again: check_raises(
                self, Busy(), given.undo))
            other.undo()

        house.attempt(GOOD, on_step=step)
        self.assertEqual(other.motions(), tuple((minute, 1, 1) for minute in (1, 102, 103, 104, 105, 106)))
        before = seen(house)
        check_raises(self, Rejected(0), lambda: house.attempt(
            [("motion", 300), ("motion", 400)], on_step=lambda given: other.attempt([("motion", 5)])))
        self.assertEqual(seen(house), before)

    def test_the_batch_is_read_once(self):
        batch = list(GOOD)
        house = start(House)
        self.assertEqual(house.attempt(batch, on_step=lambda given: batch.clear()), 6)
        self.assertEqual((batch, house.edits()[1:]), ([], tuple(GOOD)))
        batch = list(GOOD)
        house = start(House)
        house.attempt(batch, on_step=lambda given: batch.append(None))
        self.assertEqual((len(batch), house.edits()[1:]), (10, tuple(GOOD)))
        self.assertEqual(GOOD[0], ("motion", 3))

    def test_walks_that_go_on(self):
        house = start(House)
        walk = house.each_change()
        first = next(walk)
        self.assertEqual([first, *walk], list(house.each_change()))

    def test_arguments_are_passed_by_keyword(self):
        self.assertRaises(TypeError, House().attempt, [], None)


class Any(unittest.TestCase):
    def test_batches_in_any_order(self):
        for seed in range(60):
            choice = random.Random(seed)
            house, edits = start(KINDS[seed % 2]), [("motion", 1)]
            for _ in range(6):
                batch = []
                for _ in range(choice.randrange(5)):
                    minute = choice.randrange(1 + 15 * len(edits), 40 + 15 * len(edits))
                    batch.append(choice.choice((
                        ("motion", minute), ("burst", minute, choice.randrange(4), 2),
                        ("fit", ("hold", choice.randrange(4))), ("remove", choice.randrange(4)),
                    )))
                expected, plan = list(edits), Plan((("hold", 5), ("pulse", 3)), (), edits)
                wrong = None
                for index, edit in enumerate(batch):
                    if wrong is None and plan.error(edit, len(expected)) is not None:
                        wrong = index
                    if wrong is None:
                        plan.do(edit)
                        expected.append(edit)
                if wrong is None:
                    self.assertEqual(house.attempt(batch), len(expected))
                    edits = expected
                else:
                    check_raises(self, Rejected(wrong), house.attempt, batch)
                self.assertEqual(house.edits(), tuple(edits))
                self.assertEqual(house.logs(), Plan((("hold", 5), ("pulse", 3)), (), edits).logs())

    def test_rejected_hides_the_error_of_the_edit(self):
        house = House()
        try:
            house.attempt([("motion", None)])
        except LampError as error:
            self.assertEqual((type(error), error.index), (Rejected, 0))


if __name__ == "__main__":
    unittest.main()
