"""Point 31: the lamps that fit some logs, as an object."""

import itertools
import random
import unittest

from helpers import WRONG, check_raises, soon, watched
from lampstays.errors import BadLog, NoKind
from lampstays.lamps import Log, log_error, log_of, motions_of
from lampstays.stays import Stays, fits, stays_of
from small import KINDS, TOP

LIMIT = 2 * TOP
SOME = ((), ((),), (((3, 12),),), (((3, 12),), ((0, 6), (8, 14))), (((3, 4),),), (((0, 1), (2, 5)),), (((0, LIMIT),),),
        (((0, 10),), ((0, 3),)), ((), ((3, 9),), ()), (((TOP + 1, TOP + 2),),), (((3, 9), (10, 13)), ((3, 9),)))


def lamps_of(days, most=40):
    return [(kind, stay) for kind in KINDS for stay in range(1, most) if all(fits((kind, stay), log) for log in days)]


class Created(unittest.TestCase):
    def test_days(self):
        for days in SOME:
            self.assertEqual(Stays(*days).days, days)

    def test_days_can_only_be_read(self):
        stays = Stays(((3, 12),))
        with self.assertRaises(AttributeError):
            stays.days = ()
        self.assertEqual(stays.days, (((3, 12),),))

    def test_values_that_are_no_logs(self):
        wrong = [value for value in WRONG if value != ()]
        wrong.extend([((3, 8), (8, 9)), ((3, 8), (True, 9)), ((0, LIMIT + 1),), [(3, 8)], Stays(),
                      tuple((2 * at, 2 * at + 1) for at in range(61))])
        for value in wrong:
            check_raises(self, BadLog(log_error(value)), Stays, value)
            check_raises(self, BadLog(log_error(value)), Stays, (), ((3, 8),), value, None, ((3, 3),))


class Asked(unittest.TestCase):
    def test_ranges(self):
        for days in SOME:
            stays = Stays(*days)
            for kind in KINDS:
                ranges = [stays_of(kind, log) for log in days]
                for stay in (*range(1, 40), TOP - 1, TOP):
                    expected = all(any(low <= stay <= high for low, high in one) for one in ranges)
                    self.assertIs(any(low <= stay <= high for low, high in stays[kind]), expected)
                    self.assertIs((kind, stay) in stays, expected)
                self.assertTrue(all(one[1] + 1 < other[0] for one, other in zip(stays[kind], stays[kind][1:])))
        self.assertEqual((Stays()["hold"], Stays()["pulse"]), (((1, TOP),), ((1, TOP),)))

    def test_kinds(self):
        for kind in (None, True, 0, "", "Hold", ["hold"], ("hold",), {"hold": 1}, Log(()), slice(0, 1)):
            for days in SOME:
                self.assertIs(check_raises(self, NoKind(kind), lambda: Stays(*days)[kind]).value, kind)

    def test_other_values_in(self):
        for value in (*WRONG, ("hold", 0), ("hold", TOP + 1), ["hold", 5], ("hold", True), ("hold", 5, 5), Stays()):
            self.assertIs(value in Stays(), False)

    def test_how_many_and_bool_and_text(self):
        for days in SOME:
            stays = Stays(*days)
            if any(days):
                self.assertEqual(stays.how_many(), len(lamps_of(days)) if days != (((0, LIMIT),),) else 2)
            else:
                self.assertEqual(stays.how_many(), LIMIT)
            self.assertIs(bool(stays), stays.how_many() > 0)
            self.assertEqual(str(stays), "{:,} lamps".format(stays.how_many()))
        self.assertEqual([str(Stays(*days)) for days in SOME[1:5]],
                         ["2,000,000,000 lamps", "12 lamps", "8 lamps", "2 lamps"])
        self.assertEqual(str(Stays(((TOP + 1, TOP + 2),))), "0 lamps")
        self.assertEqual(str(Stays(((0, 999999937),))), "999,999,939 lamps")

    def test_no_loop(self):
        for days in SOME:
            for call in (iter, list, tuple, sorted):
                with self.assertRaises(TypeError):
                    call(Stays(*days))

    def test_and(self):
        for one, other in itertools.product(SOME, SOME):
            both = Stays(*one) & Stays(*other)
            self.assertIs(type(both), Stays)
            self.assertEqual(both.days, one + other)
            for kind in KINDS:
                self.assertEqual(both[kind], Stays(*one, *other)[kind])
        one, other = Stays(((3, 12),)), Stays(((0, 6), (8, 14)))
        self.assertEqual(((one & other).how_many(), one.how_many(), other.how_many()), (8, 12, 10))
        for value in (None, 3, ((3, 12),), Log(())):
            for call in (lambda: one & value, lambda: value & one):
                self.assertRaises(TypeError, call)

    def test_equality(self):
        for one, other in itertools.product(SOME, SOME):
            alike = all(Stays(*one)[kind] == Stays(*other)[kind] for kind in KINDS)
            self.assertIs(Stays(*one) == Stays(*other), alike)
            self.assertIs(Stays(*one) != Stays(*other), not alike)
        self.assertEqual(Stays(), Stays((), ()))
        self.assertEqual(Stays(((3, 12),)), Stays(((5, 14),), ((0, 9), (20, 38))))
        self.assertNotEqual(Stays(((3, 12),)), Stays(((3, 13),)))
        self.assertEqual(Stays(((0, 3),), ((0, 5),)), Stays(((7, 10),), ((9, 14),)))
        self.assertNotEqual(Stays(((0, 4),), ((0, 8),)), Stays(((0, 4),), ((0, 6),)))
        for value in (*WRONG, "2,000,000,000 lamps", ((3, 12),), Log(((3, 12),)), ()):
            self.assertIs(Stays(((3, 12),)) == value, False)
            self.assertIs(Stays() != value, True)


class Called(unittest.TestCase):
    def test_small_motions(self):
        choice = random.Random(31)
        sets = [some for size in range(6) for some in itertools.combinations(range(5), size)]
        for _ in range(150):
            lamp = (choice.choice(KINDS), choice.randrange(1, 6))
            days = [log for log in (watched(lamp, choice.choice(sets)) for _ in range(choice.randrange(1, 4))) if log]
            if not days:
                continue
            stays = Stays(*days)
            for some in sets:
                told = {watched(lamp, some) for lamp in lamps_of(days)}
                self.assertEqual(stays(motions_of(some)), told.pop() if len(told) == 1 else None, (days, some))

    def test_without_motions(self):
        for days in SOME:
            self.assertEqual(Stays(*days)(()), () if Stays(*days) else None)

    def test_very_many_lamps(self):
        for motions in ((0, 1, 1),), ((0, 1, TOP + 1),), ((0, 2, 61),):
            self.assertIsNone(soon(lambda: Stays()(motions)))
            self.assertIsNone(soon(lambda: Stays(((0, TOP),))(motions)))

    def test_two_lamps_of_one_stay(self):
        one = Stays(((3, 4),))
        self.assertEqual((one["hold"], one["pulse"]), (((1, 1),), ((1, 1),)))
        self.assertEqual(one(((0, 1, 3), (5, 2, 2))), ((0, 3), (5, 6), (7, 8)))
        great = Stays(((0, LIMIT),))
        self.assertEqual(great(((0, TOP, 2),)), ((0, LIMIT),))
        self.assertIsNone(great(((0, 1, 2),)))

    def test_one_lamp(self):
        one = Stays(((0, 9),), ((TOP, TOP + 4),))
        self.assertEqual((one["hold"], one["pulse"]), (((4, 4),), ()))
        self.assertEqual(one(((3, 2, 3), (20, 1, 1))), ((3, 11), (20, 24)))
        self.assertEqual(one(((3, 2, 3),)), log_of(("hold", 4), ((3, 2, 3),)))

    def test_too_many_stretches(self):
        one = Stays(((0, 9),), ((TOP, TOP + 4),))
        self.assertIsNone(one(((0, 5, 61),)))
        self.assertEqual(len(one(((0, 5, 60),))), 60)
        both = Stays(((3, 4),))
        self.assertIsNone(both(((0, 2, 61),)))
        self.assertIsNone(soon(lambda: both(((0, 2, TOP // 2),))))

    def test_no_lamps(self):
        for motions in ((), ((3, 2, 3),)):
            self.assertIsNone(Stays(((TOP + 1, TOP + 2),))(motions))


if __name__ == "__main__":
    unittest.main()
