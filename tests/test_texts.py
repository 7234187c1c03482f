"""Points 64 to 66: texts of lamps, logs and motions."""

import random
import unittest

from helpers import HUGE, WRONG, check_raises, soon
from lampstays.errors import BadText
from lampstays.houses import House
from lampstays.lamps import is_log, is_motions, log_of, motions_of
from lampstays.texts import lamps_text, log_text, motions_text, parse_lamps, parse_log, parse_motions
from stories import BURSTS, SIX, SIX_LOGS

TOP = 10 ** 9
LIMIT = 2 * TOP
PARSERS = (parse_lamps, parse_log, parse_motions)
# Two words that each of the parsers reads.
GOOD = {parse_lamps: ("hold:5", "pulse:3"), parse_log: ("3-12", "20-29"), parse_motions: ("3+2x3", "20")}


class Written(unittest.TestCase):
    def test_none(self):
        for call in (lamps_text, log_text, motions_text):
            self.assertEqual(call(()), "none")

    def test_lamps(self):
        for lamps, text in (((("hold", 1),), "hold:1"), ((("pulse", TOP),), "pulse:1000000000"),
                            ((("hold", 5), ("pulse", 3), ("hold", 5)), "hold:5 pulse:3 hold:5"),
                            (SIX[:2], "hold:9 pulse:10000000")):
            self.assertEqual(lamps_text(lamps), text)

    def test_logs(self):
        for log, text in ((((0, 1),), "0-1"), (((0, LIMIT),), "0-2000000000"),
                          (((3, 12), (20, 29), (30, 1500)), "3-12 20-29 30-1500")):
            self.assertEqual(log_text(log), text)

    def test_motions(self):
        for motions, text in ((((0, 1, 1),), "0"), (((0, 1, 2),), "0+1x2"), (((0, 1, TOP + 1),), "0+1x1000000001"),
                              (((3, 2, 3), (20, 1, 1), (TOP, 1, 1)), "3+2x3 20 1000000000"),
                              (((0, TOP, 2),), "0+1000000000x2")):
            self.assertEqual(motions_text(motions), text)


class BothWays(unittest.TestCase):
    def check(self, write, read, value):
        text = write(value)
        self.assertEqual(read(text), value)
        self.assertEqual(write(read(text)), text)

    def test_lamps(self):
        for lamps in ((), SIX, (("hold", 1),) * 6, (("pulse", TOP), ("hold", TOP)), (("hold", 5), ("pulse", 3))):
            self.check(lamps_text, parse_lamps, lamps)

    def test_logs_and_motions(self):
        choice = random.Random(64)
        for _ in range(100):
            size = choice.choice((10, 1000, TOP))
            minutes = sorted({choice.randrange(size) for _ in range(choice.randrange(40))})
            motions = motions_of(tuple(minutes))
            self.check(motions_text, parse_motions, motions)
            for lamp in (("hold", choice.randrange(1, 9)), ("pulse", choice.randrange(1, size))):
                self.check(log_text, parse_log, log_of(lamp, motions))
        for log in SIX_LOGS:
            self.check(log_text, parse_log, log)
        self.check(motions_text, parse_motions, BURSTS)

    def test_as_many_as_may_be(self):
        for write, read, items, limit in (
            (lamps_text, parse_lamps, tuple(("hold", 1 + at) for at in range(9)), 6),
            (log_text, parse_log, tuple((2 * at, 2 * at + 1) for at in range(70)), 60),
            (motions_text, parse_motions, tuple((at, 1, 1) for at in range(400)), 360),
        ):
            self.check(write, read, items[:limit])
            for many in (limit + 1, limit + 2, len(items)):
                check_raises(self, BadText(limit), read, " ".join(write((item,)) for item in items[:many]))
            words = [write((item,)) for item in items[:limit + 1]]
            check_raises(self, BadText(limit), read, " ".join([*words, "x"]))
            check_raises(self, BadText(limit - 1), read, " ".join([*words[:limit - 1], "x", *words[limit:]]))
            check_raises(self, BadText(limit), read, " ".join([*words[:limit], "x"]))
            check_raises(self, BadText(limit), read, " ".join([*words[:limit], ""]))

    def test_what_a_house_tells(self):
        house = House(*SIX[:4])
        house.burst(10, 3, 70)
        house.motion_all(10 ** 6, 10 ** 6 + 1, 10 ** 7)
        house.fit(("pulse", 9))
        house.motion(TOP)
        self.check(lamps_text, parse_lamps, house.lamps())
        self.check(motions_text, parse_motions, house.motions())
        for log in house.logs():
            self.check(log_text, parse_log, log)


class BadTexts(unittest.TestCase):
    def test_values_that_are_no_strings(self):
        values = [value for value in WRONG if not isinstance(value, str)]
        for read in PARSERS:
            for value in (*values, (), b"none", b"3", ("none",), House()):
                self.assertIsNone(check_raises(self, BadText(None), read, value).index)

    def test_none(self):
        for read in PARSERS:
            one, other = GOOD[read]
            self.assertEqual(read("none"), ())
            for text, index in (("none none", 0), ("none " + one, 0), (one + " none", 1), ("None", 0), ("none ", 0),
                                (" none", 0), ("none\n", 0), ("NONE", 0), ("", 0)):
                check_raises(self, BadText(index), read, text)
            check_raises(self, BadText(2), read, f"{one} {other} none")

    def test_spaces(self):
        for read in PARSERS:
            one, other = GOOD[read]
            self.assertEqual(len(read(f"{one} {other}")), 2)
            for text, index in (("", 0), (" ", 0), ("  ", 0), (f" {one}", 0), (f"{one} ", 1), (f"{one}  {other}", 1),
                                (f"{one} {other} ", 2), (f"{one}\n{other}", 0), (f"{one}\n", 0), (f"\n{one}", 0),
                                (f"{one}\t{other}", 0), (f"{one} {other}\n", 1), (f"{one} \n {other}", 1)):
                check_raises(self, BadText(index), read, text)

    def words(self, read, wrong):
        one, other = GOOD[read]
        for word in wrong:
            for text, index in ((word, 0), (f"{word} {one}", 0), (f"{one} {word}", 1), (f"{one} {other} {word}", 2),
                                (f"{word} {word}", 0), (f"{one} {word} {word}", 1)):
                self.assertIs(type(check_raises(self, BadText(index), read, text).index), int)

    def numbers(self):
        """Texts that are no numbers from 1 on, nor any that are small enough."""
        return ("", "0", "00", "05", "005", "+5", "-5", "5.0", "5_0", "1e3", "five", "0x5", "5a", "a5", "\u0665",
                "\u00b2", "\uff15", "5\n", "True", "None", "1,500", str(HUGE), "9" * 5000, "1" + "0" * 9000,
                "0" * 4999 + "5", "3000000000", "99999999999999999999", "100000000000000000000")

    def test_lamps(self):
        wrong = ["x", "hold", "hold:", ":5", "pulse", "Hold:5", "HOLD:5", "hold:5:", "hold:5:5", "hold::5", "hold;5",
                 "hold5", "5", "5:hold", "held:5", "hold:hold", "hold:1000000001", "on:5"]
        wrong.extend(kind + ":" + number for kind in ("hold", "pulse") for number in self.numbers())
        self.words(parse_lamps, wrong)

    def test_logs(self):
        wrong = ["x", "3", "3-", "-8", "-", "3-3", "8-3", "3--8", "3-8-9", "3+8", "3_8", "0-0", "3-2000000001",
                 "2000000000-2000000001", "03-8", "3-08", "00-8", "3-8x", "-3-8", "3-+8", "+3-8"]
        for number in self.numbers():
            wrong.append("0-" + number)
            if number != "0":
                wrong.append(number + "-30")
        self.words(parse_log, wrong)

    def test_motions(self):
        wrong = ["x", "+", "3+", "3+2", "3+2x", "3x2", "3+x3", "+2x3", "3+2x1", "3+1x1", "3+2x0", "3+0x2", "3+0x0",
                 "3+2x3x4", "3+2+3", "3-2x3", "3+2X3", "03", "03+2x3", "3+02x3", "3+2x03", "1000000001", "-3", "3.0",
                 "0+1x1000000002", "1+1x1000000001", "0+1000000001x2", "1000000000+1x2", "3+2x3+4x5", "3*2x3"]
        for number in self.numbers():
            wrong.append(number + "+2x3")
            wrong.append("40+" + number + "x3")
            wrong.append("40+2x" + number)
            if number != "0":
                wrong.append(number)
        wrong.remove("0+2x3")
        self.words(parse_motions, wrong)

    def test_order(self):
        for read, text, index in (
            (parse_log, "3-12 12-20", 1), (parse_log, "3-12 11-20", 1), (parse_log, "20-29 3-12", 1),
            (parse_log, "3-12 3-12", 1), (parse_log, "0-1 2-3 3-4 1-2", 2), (parse_log, "0-1 2-3 x 1-2", 2),
            (parse_log, "3-12 12-x", 1), (parse_motions, "3+2x3 7", 1), (parse_motions, "3+2x3 6", 1),
            (parse_motions, "5 5", 1), (parse_motions, "5 4+1x9", 1), (parse_motions, "0 5 6+2x2 8 9", 3),
            (parse_motions, "0 5 x 5", 2), (parse_motions, "1000000000 1000000000", 1),
        ):
            check_raises(self, BadText(index), read, text)
        self.assertEqual(parse_log("3-12 13-20"), ((3, 12), (13, 20)))
        self.assertEqual(parse_motions("3+2x3 8"), ((3, 2, 3), (8, 1, 1)))
        self.assertEqual(parse_lamps("pulse:3 hold:5 hold:5"), (("pulse", 3), ("hold", 5), ("hold", 5)))

    def test_what_is_read_is_what_it_is_called(self):
        choice = random.Random(65)
        signs = "0123456789 -+x:holdpuse"
        for _ in range(3000):
            text = "".join(choice.choice(signs[:choice.choice((15, 23))]) for _ in range(choice.randrange(1, 12)))
            for read, write in ((parse_log, log_text), (parse_motions, motions_text), (parse_lamps, lamps_text)):
                try:
                    value = read(text)
                except BadText as error:
                    self.assertIs(0 <= error.index <= text.count(" "), True)
                    continue
                self.assertEqual(write(value), text)
                if read == parse_log:
                    self.assertTrue(is_log(value))
                if read == parse_motions:
                    self.assertTrue(is_motions(value))

    def test_long_texts(self):
        for read in PARSERS:
            check_raises(self, BadText(0), lambda: soon(lambda: read("9" * 10000)))
            check_raises(self, BadText(0), lambda: soon(lambda: read(" " * 10000)))
            check_raises(self, BadText(0), lambda: soon(lambda: read("none " * 2000)))


if __name__ == "__main__":
    unittest.main()
