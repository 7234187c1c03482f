"""Points 59, 61 and 63: changes minute by minute, copies, equal houses, their texts, and houses that are asked."""

import random
import unittest

from helpers import HUGE, WRONG, check_raises, soon
from lampstays.errors import NoIndex, NoMinute
from lampstays.houses import House, MeteredHouse
from lampstays.lamps import Log
from stories import BURSTS, SIX, SIX_LOGS
from model import KINDS, seen

TOP = 10 ** 9
LIMIT = 2 * TOP


def some_houses():
    for shape in KINDS:
        yield shape()
        yield shape(("hold", 5), ("pulse", 3))
        yield shape.after(((3, 2, 3),), ("hold", 5), ("pulse", 3))
        yield shape.after(((0, 1, 7), (9, 4, 3), (30, 1, 1)), ("pulse", 4), ("hold", 1), ("hold", 9), ("pulse", 4))
        yield shape.after(BURSTS, *SIX)
        yield shape.after(((TOP - 3, 3, 2),), ("hold", TOP), ("pulse", TOP), ("pulse", 2))
        later = shape(("hold", 2))
        later.burst(0, 3, 4)
        later.fit(("pulse", 5))
        later.motion_all(12, 13, 17)
        yield later


class Changes(unittest.TestCase):
    def test_by_the_logs(self):
        for house in some_houses():
            expected = sorted([(on, index, True) for index, log in enumerate(house.logs()) for on, _ in log]
                              + [(off, index, False) for index, log in enumerate(house.logs()) for _, off in log])
            found = soon(lambda: list(house.each_change()))
            self.assertEqual(found, expected)
            self.assertTrue(all(type(is_on) is bool for _, _, is_on in found))
            for start in {0, 1, *[change[0] for change in expected[::7]], *[change[0] + 1 for change in expected[::7]]}:
                self.assertEqual(list(house.each_change(start=start)),
                                 [change for change in expected if change[0] >= start])
            for start in (LIMIT + 1, 10 ** 39, 10 ** 40 - 1):
                self.assertEqual(soon(lambda: list(house.each_change(start=start))), [])

    def test_minute_by_minute(self):
        for house in list(some_houses())[:4]:
            lit = [()] + [house(minute) for minute in range(60)]
            expected = [(minute, index, index in lit[minute + 1]) for minute in range(60)
                        for index in range(house.many) if (index in lit[minute]) != (index in lit[minute + 1])]
            self.assertEqual(list(house.each_change()), expected)

    def test_left_early_and_two_at_once(self):
        for shape in KINDS:
            house = shape.after(((3, 2, 3),), ("hold", 5), ("pulse", 3))
            before = seen(house)
            one, other = house.each_change(), house.each_change(start=6)
            found = [next(one), next(other), next(one), next(other), next(one)]
            self.assertEqual(found, [(3, 0, True), (6, 1, False), (3, 1, True), (7, 1, True), (6, 1, False)])
            self.assertEqual(seen(house), before)
            self.assertEqual(list(other), [(10, 1, False), (12, 0, False)])
            self.assertRaises(TypeError, house.each_change, 6)

    def test_at_the_same_minute(self):
        house = House.after(((0, 1, 1), (5, 1, 1)), ("hold", 5), ("hold", 2), ("pulse", 1), ("pulse", 5))
        self.assertEqual(list(house.each_change()), [
            (0, 0, True), (0, 1, True), (0, 2, True), (0, 3, True), (1, 2, False), (2, 1, False), (5, 1, True),
            (5, 2, True), (6, 2, False), (7, 1, False), (10, 0, False), (10, 3, False),
        ])


class Copies(unittest.TestCase):
    def test_the_same_state(self):
        for house in some_houses():
            twin = house.copy()
            self.assertIs(type(twin), type(house))
            self.assertIsNot(twin, house)
            self.assertEqual(seen(twin), seen(house))
            self.assertEqual(twin, house)

    def test_they_go_on_apart(self):
        for shape in KINDS:
            house = shape(("hold", 5))
            house.motion_all(3, 9)
            first = seen(house)
            twin = house.copy()
            twin.motion(20)
            twin.fit(("pulse", 2))
            self.assertEqual(seen(house), first)
            second = seen(twin)
            self.assertEqual([house.undo(), house.undo(), house.remove(0)], [1, 0, 1])
            self.assertEqual(seen(twin), second)
            self.assertEqual([twin.undo() for _ in range(4)], [3, 2, 1, 0])
            self.assertEqual(twin.lamps(), (("hold", 5),))
            again = twin.copy().copy()
            self.assertEqual(again.burst(1, 1, 5), 1)
            self.assertEqual(len(twin), 0)


class Equal(unittest.TestCase):
    def test_by_other_edits(self):
        for one_shape in KINDS:
            for other_shape in KINDS:
                one, other = one_shape(("hold", 5)), other_shape.after(((3, 1, 1),), ("hold", 5))
                self.assertIs(one == other, False)
                one.motion(3)
                self.assertIs(one == other, True)
                self.assertIs(one != other, False)
                one.fit(("pulse", 1))
                other.burst(4, 9, 1)
                one.remove(1)
                one.burst(4, 2, 1)
                self.assertIs(one == other, True)
                other.fit(("pulse", 1))
                self.assertIs(one == other, False)

    def test_what_counts(self):
        lamps = (("hold", 5), ("pulse", 3))
        house = House.after(((3, 2, 3),), *lamps)
        self.assertEqual(house, MeteredHouse.after(((3, 2, 3),), *lamps))
        self.assertEqual(MeteredHouse(*lamps, cap=3), MeteredHouse(*lamps, cap=0))
        self.assertEqual(MeteredHouse(*lamps, cap=3), House(*lamps))
        self.assertNotEqual(house, House.after(((3, 2, 3),), *lamps[::-1]))
        self.assertNotEqual(house, House.after(((3, 2, 4),), *lamps))
        self.assertNotEqual(House(("hold", 5)), House(("hold", 6)))
        self.assertNotEqual(House(("hold", 5)), MeteredHouse(("pulse", 5)))
        self.assertNotEqual(House(), House(("hold", 5)))
        self.assertNotEqual(House.after(((3, 1, 1),), ("hold", 5)), House.after(((3, 1, 1),), ("pulse", 5)))
        later = House(*lamps[:1])
        later.burst(3, 2, 3)
        later.fit(lamps[1])
        self.assertEqual((later.lamps(), later.motions()), (house.lamps(), house.motions()))
        self.assertNotEqual(later, house)
        self.assertNotEqual(house, later)

    def test_the_same_logs_by_lamps_that_were_fitted_otherwise(self):
        one, other = House(("hold", 5)), House()
        other.fit(("hold", 5))
        self.assertEqual(one, other)
        for house in (one, other):
            house.motion(7)
        self.assertEqual(one, other)
        # The pulse lamp of the one did not see the first motion, but its stay shows no difference any more.
        one, other = House(("hold", 1)), House(("hold", 1))
        one.motion_all(1, 2)
        other.burst(1, 1, 2)
        self.assertEqual(one.logs(), other.logs())
        self.assertNotEqual(one, other)

    def test_other_values(self):
        for house in some_houses():
            for value in (*WRONG, (), house.logs(), house.lamps(), str(house), len(house), Log(()), object()):
                self.assertIs(house == value, False)
                self.assertIs(value == house, False)
                self.assertIs(house != value, True)


class Texts(unittest.TestCase):
    def test_always_with_these_words(self):
        house = House()
        self.assertEqual(str(house), "0 lamps, 0 motions, 0 edits")
        house.fit(("hold", 5))
        house.motion(0)
        self.assertEqual(str(house), "1 lamps, 1 motions, 2 edits")
        house.burst(1, 1, 998)
        self.assertEqual(str(house), "1 lamps, 999 motions, 3 edits")
        house.motion(TOP)
        self.assertEqual(str(house), "1 lamps, 1,000 motions, 4 edits")
        self.assertEqual(str(House.after(((0, 1, TOP + 1),), *SIX)), "6 lamps, 1,000,000,001 motions, 0 edits")

    def test_len(self):
        for shape in KINDS:
            house = shape(("hold", 1), ("pulse", 1))
            house.motion_all(*range(40))
            self.assertEqual((len(house), house.undo(), len(house)), (40, 39, 39))


class Asked(unittest.TestCase):
    def test_called(self):
        for house in some_houses():
            changes = [change[0] for change in house.each_change()]
            for minute in {0, TOP, *[minute + by for minute in changes for by in (-1, 0, 1)]}:
                if 0 <= minute <= TOP:
                    expected = [index for index, log in enumerate(house.logs())
                                if any(on <= minute < off for on, off in log)]
                    self.assertEqual(house(minute), tuple(expected))
            for value in (*WRONG, (), TOP + 1, LIMIT):
                self.assertIs(check_raises(self, NoMinute(value), house, value).value, value)

    def test_in(self):
        for house in some_houses():
            changes = [change[0] for change in house.each_change()]
            for minute in {0, TOP, LIMIT, *[minute + by for minute in changes for by in (-1, 0, 1)]}:
                expected = any(on <= minute < off for log in house.logs() for on, off in log)
                self.assertIs(minute in house, expected)
            for value in (*WRONG, (), (3,), -1):
                self.assertIs(value in house, False, value)

    def test_above_the_last_minute(self):
        house = House.after(((TOP, 1, 1),), ("pulse", 2), ("hold", TOP))
        self.assertEqual([minute in house for minute in (TOP - 1, TOP, TOP + 1, LIMIT - 1, LIMIT, HUGE)],
                         [False, True, True, True, False, False])
        self.assertEqual(house(TOP), (0, 1))

    def test_items(self):
        for house in some_houses():
            self.assertEqual(tuple(house[index] for index in range(house.many)), house.logs())
            for value in (*WRONG, (), house.many, -house.many - 1, (0,), "0", slice(0, 1)):
                self.assertIs(check_raises(self, NoIndex(value), lambda: house[value]).index, value)
        self.assertEqual(House.after(BURSTS, *SIX)[4], SIX_LOGS[4])

    def test_bool(self):
        for shape in KINDS:
            house = shape()
            self.assertIs(bool(house), False)
            house.fit(("hold", 1))
            self.assertIs(bool(house), False)
            house.motion(0)
            self.assertIs(bool(house), True)
            house.undo()
            self.assertIs(bool(house), False)
            self.assertIs(bool(shape.after(((3, 1, 1),))), True)

    def test_no_loop(self):
        for house in some_houses():
            for call in (iter, list, tuple, sorted):
                self.assertRaises(TypeError, call, house)


class Determined(unittest.TestCase):
    def test_equal_edits_lead_to_equal_answers(self):
        for seed in range(15):
            told = []
            for _ in range(2):
                choice = random.Random(seed)
                house = KINDS[seed % 2](("hold", choice.randrange(1, 9)), ("pulse", choice.randrange(1, 9)))
                for _ in range(12):
                    house.motion((house.latest_minute or 0) + choice.randrange(1, 9))
                    if choice.random() < 0.3:
                        house.undo()
                told.append(seen(house))
            self.assertEqual(*told)


if __name__ == "__main__":
    unittest.main()
