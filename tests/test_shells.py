"""Points 67 to 70: shells."""

import random
import unittest

from helpers import HUGE, WRONG, soon
from lampstays.errors import LampError
from lampstays.facts import state_of
from lampstays.fewest import fewest_count
from lampstays.houses import House, MeteredHouse
from lampstays.shells import Shell
from lampstays.texts import lamps_text, log_text, motions_text, parse_lamps, parse_log, parse_motions
from stories import BURSTS, SIX
from model import ALONE, KINDS, seen

TOP = 10 ** 9
UNKNOWN = "unknown command"
TWENTY = "9" * 20


class Commands(unittest.TestCase):
    def answers(self, shell, *pairs):
        for command, answer in pairs:
            self.assertEqual(shell.execute(command), answer, command)

    def test_edits(self):
        for shape in KINDS:
            house = shape(("hold", 5))
            self.answers(
                Shell(house), ("motion 3", "ok 1"), ("burst 5 2 2", "ok 2"), ("fit pulse:3", "ok 3"),
                ("motion 20", "ok 4"), ("remove 0", "ok 5"), ("burst 1000000000 7 1", "ok 6"), ("undo", "ok 5"),
                ("motion 0", "error NotLater"), ("undo", "ok 4"), ("undo", "ok 3"), ("undo", "ok 2"), ("undo", "ok 1"),
                ("undo", "ok 0"), ("undo", "error NothingToUndo"), ("motion 0", "ok 1"),
                ("fit hold:1000000000", "ok 2"),
            )
            self.assertEqual(house.edits(), (("motion", 0), ("fit", ("hold", TOP))))

    def test_queries(self):
        for shape in KINDS:
            house = shape(("hold", 5), ("pulse", 3))
            shell = Shell(house)
            self.answers(shell, ("lamps", "hold:5 pulse:3"), ("motions", "none"), ("log 0", "none"), ("at 0", "none"))
            house.burst(3, 2, 3)
            house.motion(20)
            before = seen(house)
            self.answers(
                shell, ("motions", "3+2x3 20"), ("log 0", "3-12 20-25"), ("log 1", "3-6 7-10 20-23"), ("at 8", "0 1"),
                ("at 6", "0"), ("at 3", "0 1"), ("at 2", "none"), ("at 12", "none"), ("at 1000000000", "none"),
                ("log 2", "error NoIndex"), ("at 1000000001", "error NoMinute"),
                ("state 3", "sure"), ("state 4", "open"), ("state 6", "quiet"), ("state 7", "sure"),
                ("state 1000000000", "quiet"), ("state 1000000001", "error NoMinute"), ("fewest", "3"),
            )
            self.assertEqual(seen(house), before)

    def test_no_lamps(self):
        shell = Shell(House())
        self.answers(shell, ("lamps", "none"), ("log 0", "error NoIndex"), ("at 5", "none"), ("state 5", "open"),
                     ("fewest", "0"), ("remove 0", "error NoIndex"))

    def test_lamps_that_were_fitted_later(self):
        house = House(("hold", 5))
        shell = Shell(house)
        self.answers(shell, ("motion 3", "ok 1"), ("motion 7", "ok 2"), ("fit pulse:3", "ok 3"),
                     ("state 3", "error Unexplained"), ("fewest", "error Unexplained"),
                     ("state 99999999999", "error Unexplained"), ("remove 0", "ok 4"), ("fewest", "0"),
                     ("state 3", "quiet"))

    def test_each_error_by_its_name(self):
        house = MeteredHouse(("hold", 5), cap=9)
        shell = Shell(house)
        self.answers(
            shell, ("motion 1000000001", "error NoMinute"), ("burst 5 0 3", "error NoCount"),
            ("burst 5 1000000000 2", "error NoMinute"), ("burst 5 1 1000000000", "error NoMinute"),
            ("burst 5 3 0", "error NoCount"), ("burst 5 5 3", "error TooBright"), ("burst 5 9 99", "error TooLarge"),
            ("motion 5", "ok 1"), ("motion 5", "error NotLater"), ("motion 10", "error TooBright"),
            ("remove 1", "error NoIndex"), ("at " + TWENTY, "error NoMinute"), ("remove " + TWENTY, "error NoIndex"),
            ("log " + TWENTY, "error NoIndex"), ("motion " + TWENTY, "error NoMinute"), ("burst 6 1 1", "ok 2"),
            ("burst 7 " + TWENTY + " 2", "error NoMinute"), ("burst 7 " + TWENTY + " 1", "ok 3"),
        )
        house = House(*[("hold", 2)] * 6)
        shell = Shell(house)
        self.answers(shell, ("fit hold:1", "error TooLarge"))
        full = House.after(tuple((at, 1, 1) for at in range(360)), ("hold", 9))
        self.answers(Shell(full), ("motion 900", "error TooMany"), ("burst 900 1 5", "error TooMany"))
        full = House.after(ALONE, ("hold", 1))
        self.answers(Shell(full), ("motion 900", "error TooLarge"))
        house = House()
        house.motion_all(*range(60))
        self.answers(Shell(house), ("motion 5", "error TooManyEdits"), ("fit hold:1", "error TooManyEdits"),
                     ("remove 0", "error TooManyEdits"), ("undo", "ok 59"))
        house = House(("pulse", 1))
        house.burst(0, 1, 3000)
        self.answers(Shell(house), ("fewest", "error TooLarge"), ("state 5", "sure"), ("log 0", "0-3000"))

    def test_long_times(self):
        shell = Shell(House.after(BURSTS, *SIX))
        for number in range(6):
            self.assertTrue(soon(lambda: shell(f"log {number}")).startswith("1000000-"))
        self.assertEqual(soon(lambda: shell("state 1000000")), "sure")
        self.assertTrue(soon(lambda: shell("fewest")).isdigit())
        shell = Shell(House(("hold", 3)))
        self.answers(shell, ("burst 0 1 1000000001", "ok 1"), ("motions", "0+1x1000000001"), ("log 0", "0-1000000003"),
                     ("at 1000000000", "0"), ("fewest", "333333335"), ("state 0", "sure"), ("state 1", "open"))


class Unknown(unittest.TestCase):
    def unknown(self, *commands):
        for shape in KINDS:
            house = shape(("hold", 5), ("pulse", 3))
            house.motion(3)
            shell, before = Shell(house), seen(house)
            for command in commands:
                self.assertEqual(shell.execute(command), UNKNOWN, command)
                self.assertEqual(shell(command), UNKNOWN)
            self.assertEqual(seen(house), before)

    def test_values_that_are_no_strings(self):
        values = [value for value in WRONG if not isinstance(value, str)]
        self.unknown(*values, (), ("undo",), ["undo"], b"undo", House())

    def test_words_that_are_none(self):
        self.unknown("", " ", "x", "3", "hold:5", "none", "Undo", "UNDO", "Motion 5", "edits", "copy", "logs", "many",
                     "motion_all 5", "attempt", "len", "states 3", "undo\n", "\nundo", "undo;", "motion\n5", "ok 1",
                     "unknown command", "error Busy")

    def test_too_few_and_too_many_arguments(self):
        for word, arguments in (("motion", "9"), ("burst", "9 1 2"), ("fit", "hold:5"), ("remove", "0"), ("undo", ""),
                                ("lamps", ""), ("motions", ""), ("log", "0"), ("at", "5"), ("state", "5"),
                                ("fewest", "")):
            command = f"{word} {arguments}" if arguments else word
            self.unknown(command + " 1", command + " hold:5", command + " x")
            if arguments:
                self.unknown(word, command.rsplit(" ", 1)[0])
            self.unknown(command + " ", " " + command, command.replace(" ", "  ", 1) + " ", command + "\n",
                         word.upper() + command[len(word):], word.capitalize() + command[len(word):], word + "s 5",
                         command.replace(" ", "\t", 1) + " ", word[:-1] + command[len(word):])
            if " " in command:
                self.unknown(command.replace(" ", "  ", 1), command.replace(" ", "\n", 1), command.replace(" ", ""))

    def test_numbers(self):
        wrong = ("", "x", "-1", "+5", "05", "00", "5.0", "1e3", "5x", "0x5", "1_0", "1,000", "\u0665", "\u00b2", "five",
                 "1" + TWENTY, "0" + TWENTY, str(HUGE), "9" * 5000, "None", "True", "hold:5", "5+1x2", "3-8")
        for number in wrong:
            self.unknown(*[f"{word} {number}" for word in ("motion", "remove", "log", "at", "state", "undo", "fewest")])
            self.unknown(f"burst {number} 1 2", f"burst 9 {number} 2", f"burst 9 1 {number}")

    def test_lamps(self):
        for lamp in ("", "5", "hold", "hold:", "hold:0", "hold:05", "hold:1000000001", "Hold:5", "on:5", "hold:-5",
                     "hold:x", "pulse:", ":5", "hold:5:5", "none", "hold:" + TWENTY, "hold:5,"):
            self.unknown(f"fit {lamp}")


class Shells(unittest.TestCase):
    def test_words(self):
        self.assertEqual(Shell.WORDS, ("motion", "burst", "fit", "remove", "undo", "lamps", "motions", "log", "at",
                                       "state", "fewest"))
        self.assertIs(type(Shell.WORDS), tuple)
        self.assertEqual(Shell(House()).WORDS, Shell.WORDS)
        for word in Shell.WORDS:
            house = House(("hold", 5))
            found = [Shell(house)(word + arguments) for arguments in ("", " 0", " 1 1 1", " hold:5")]
            self.assertEqual([answer == UNKNOWN for answer in found].count(False), 1, word)

    def test_just_what_execute_does(self):
        one, other = Shell(House(("hold", 5))), Shell(House(("hold", 5)))
        for value in ("motion 3", "undo", "x", None, "log 0", 7, "motion 3", "motion 3"):
            self.assertEqual(one(value), other.execute(value))
            self.assertEqual((one.last, one.transcript()), (other.last, other.transcript()))

    def test_transcript(self):
        shell = Shell(House())
        self.assertEqual((shell.transcript(), shell.last), ((), None))
        pairs = []
        for number in range(75):
            value = (f"motion {number}", "lamps", 7, f"at {number}", ["undo"], "undo it")[number % 6]
            pairs.append((value if isinstance(value, str) else None, shell.execute(value)))
            self.assertEqual(shell.transcript(), tuple(pairs[-30:]))
            self.assertEqual(shell.last, pairs[-1])
        self.assertEqual(len(shell.transcript()), 30)

    def test_results_stay_as_they_are(self):
        shell = Shell(House())
        shell("motion 3")
        told = shell.transcript()
        shell("undo")
        self.assertEqual(told, (("motion 3", "ok 1"),))
        self.assertIs(type(told), tuple)

    def test_last_can_only_be_read(self):
        shell = Shell(House())
        with self.assertRaises(AttributeError):
            shell.last = None
        shell("undo")
        self.assertEqual(shell.last, ("undo", "error NothingToUndo"))

    def test_long_commands_are_kept_whole(self):
        shell, text = Shell(House()), "motion " + "9" * 9993
        self.assertEqual(soon(lambda: shell(text)), UNKNOWN)
        self.assertEqual(shell.last, (text, UNKNOWN))

    def test_two_shells_on_one_house(self):
        house = House(("hold", 5))
        one, other = Shell(house), Shell(house)
        self.assertEqual([one("motion 3"), other("motion 9"), one("motions"), other("undo"), one("undo")],
                         ["ok 1", "ok 2", "3 9", "ok 1", "ok 0"])
        house.motion(50)
        self.assertEqual((one("motions"), len(one.transcript()), len(other.transcript())), ("50", 4, 2))

    def test_fed(self):
        for shape in KINDS:
            house = shape(("hold", 5))
            shell = Shell.fed(house, "motion 3", 5, "lamps", None, "undo 1", "motion 9")
            self.assertIs(type(shell), Shell)
            self.assertEqual(shell.transcript(), (("motion 3", "ok 1"), (None, UNKNOWN), ("lamps", "hold:5"),
                                                  (None, UNKNOWN), ("undo 1", UNKNOWN), ("motion 9", "ok 2")))
            self.assertEqual(house.motions(), ((3, 1, 1), (9, 1, 1)))
            self.assertEqual((Shell.fed(house).transcript(), Shell.fed(house).last), ((), None))
            many = Shell.fed(house, *["lamps"] * 20, *WRONG, *["motions"] * 20)
            self.assertEqual((len(many.transcript()), many.last), (30, ("motions", "3 9")))

    def test_in_the_middle_of_a_batch(self):
        house = House(("hold", 5))
        shell = Shell(house)
        house.attempt([("motion", 3), ("motion", 4)], on_step=lambda given: Shell.fed(given, "undo") and shell("undo"))
        self.assertEqual(shell.transcript(), (("undo", "error Busy"),) * 2)
        house.undo()
        house.attempt([("motion", 7)], on_step=lambda given: shell("motions"))
        self.assertEqual(shell.last, ("motions", "3 7"))


class ByMethods(unittest.TestCase):
    def command(self, choice, last):
        minute = last + choice.randrange(-2, 9)
        return choice.choice((
            ("motion", max(minute, 0)), ("burst", max(minute, 0), choice.randrange(4), choice.randrange(5)),
            ("fit", (choice.choice(("hold", "pulse")), choice.randrange(1, 7))), ("remove", choice.randrange(4)),
            ("undo",),
        ))

    def text(self, name, values):
        return " ".join([name, *[lamps_text((value,)) if isinstance(value, tuple) else str(value) for value in values]])

    def test_the_same_by_a_shell_and_by_methods(self):
        for seed in range(30):
            choice = random.Random(seed)
            one, other = KINDS[seed % 2](("hold", 4)), KINDS[seed % 2](("hold", 4))
            shell = Shell(one)
            for _ in range(40):
                name, *values = self.command(choice, other.latest_minute or 0)
                try:
                    expected = "ok {}".format(getattr(other, name)(*values))
                except LampError as error:
                    expected = "error " + type(error).__name__
                self.assertEqual(shell(self.text(name, values)), expected)
            self.assertEqual(seen(one), seen(other))
            self.check_answers(shell, other)

    def check_answers(self, shell, house):
        self.assertEqual((shell("lamps"), shell("motions")), (lamps_text(house.lamps()), motions_text(house.motions())))
        self.assertEqual(parse_lamps(shell("lamps")), house.lamps())
        self.assertEqual(parse_motions(shell("motions")), house.motions())
        for index in range(house.many):
            self.assertEqual(shell(f"log {index}"), log_text(house[index]))
            self.assertEqual(parse_log(shell(f"log {index}")), house.logs()[index])
        for minute in range(60):
            self.assertEqual(shell(f"at {minute}"), " ".join(str(index) for index in house(minute)) or "none")
        for call, command in ((lambda: state_of(house.lamps(), house.logs(), 5), "state 5"),
                              (lambda: fewest_count(house.lamps(), house.logs()), "fewest")):
            try:
                expected = str(call())
            except LampError as error:
                expected = "error " + type(error).__name__
            self.assertEqual(shell(command), expected)

    def test_errors_leave_all_as_it_is(self):
        house = MeteredHouse(("hold", 5), cap=5)
        shell = Shell.fed(house, "motion 3")
        before = seen(house)
        for command in ("motion 3", "motion 9", "burst 1 0 1", "remove 5", "log 7", "at 1000000001", "burst 9 1 61",
                        "fit hold:0", "x"):
            self.assertIn(shell(command).split(" ")[0], ("error", "unknown"))
            self.assertEqual(seen(house), before)


if __name__ == "__main__":
    unittest.main()
