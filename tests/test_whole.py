"""The whole: what one module tells, held against what the others tell of it."""

import random
import unittest

from helpers import minutes_of, soon
from lampstays.facts import Reading, explains, state_of, verdict, verdict_holds
from lampstays.fewest import (
    each_explanation, fewest_count, fewest_holds, fewest_motions, is_explanation, most_count, most_motions, needs_of,
    next_possible,
)
from lampstays.foretold import (
    Light, each_spare, first_misfit, is_needless, light_log, moving_range, sightings_fit, thinned,
)
from lampstays.houses import House, MeteredHouse
from lampstays.lamps import count_motions, is_log, is_motions, log_of, motion_at, motions_before, motions_of
from lampstays.shells import Shell
from lampstays.stays import Stays, arrangements, fits, stays_beside
from lampstays.texts import lamps_text, log_text, motions_text, parse_lamps, parse_log, parse_motions
from stories import BURSTS, SIX

TOP = 10 ** 9


def any_house(seed):
    """Some house, with bursts far apart, all of whose lamps have seen all of its motions."""
    choice = random.Random(seed)
    lamps = [(choice.choice(("hold", "pulse")), choice.randrange(1, 12)) for _ in range(choice.randrange(7))]
    house = (House, MeteredHouse)[seed % 2](*lamps)
    last = -1
    for _ in range(choice.randrange(12)):
        first = last + choice.randrange(1, 15)
        house.burst(first, choice.randrange(1, 5), choice.randrange(1, 5))
        last = house.latest_minute
    return house


class ReadBack(unittest.TestCase):
    def check(self, house):
        lamps, motions, logs = house.lamps(), house.motions(), house.logs()
        self.assertTrue(is_motions(motions) and all(is_log(log) for log in logs))
        self.assertEqual(logs, tuple(log_of(lamp, motions) for lamp in lamps))
        self.assertIs(explains(lamps, logs, motions), True)
        self.assertEqual(verdict(lamps, logs)[0], "motions")
        self.assertIs(verdict_holds(lamps, logs, ("motions", motions)), True)
        self.assertIs(verdict_holds(lamps, logs, verdict(lamps, logs)), True)
        self.assertTrue(all(fits(lamp, log) and lamp in Stays(log) for lamp, log in zip(lamps, logs)))
        self.assertTrue(fewest_count(lamps, logs) <= house.moved <= most_count(lamps, logs))
        self.assertIs(fewest_holds(lamps, logs, (fewest_motions(lamps, logs), needs_of(lamps, logs))), True)
        for minute in list(minutes_of(motions))[::5]:
            self.assertNotEqual(state_of(lamps, logs, minute), "quiet")
            self.assertEqual(next_possible(lamps, logs, minute), minute)
            self.assertIs(minute in Reading(lamps, logs), True)
            self.assertIs(minute in house, bool(lamps))
            self.assertEqual(house(minute), tuple(range(len(lamps))))

    def test_the_logs_of_a_house(self):
        for seed in range(60):
            self.check(any_house(seed))
        soon(lambda: self.check_long(House.after(BURSTS, *SIX)))

    def check_long(self, house):
        self.assertIs(explains(house.lamps(), house.logs(), house.motions()), True)
        self.assertLessEqual(fewest_count(house.lamps(), house.logs()), house.moved)

    def test_which_log_is_that_of_which_lamp(self):
        for seed in range(0, 60, 4):
            house = any_house(seed)
            lamps, logs = house.lamps(), house.logs()
            self.assertIn(tuple(range(len(lamps))), arrangements(lamps, logs))
            if lamps:
                kind, stay = lamps[-1]
                ranges = stays_beside(kind, logs[-1], lamps[:-1], logs[:-1])
                self.assertTrue(any(low <= stay <= high for low, high in ranges))

    def test_texts(self):
        for seed in range(60):
            house = any_house(seed)
            self.assertEqual(parse_lamps(lamps_text(house.lamps())), house.lamps())
            self.assertEqual(parse_motions(motions_text(house.motions())), house.motions())
            shell = Shell(house)
            self.assertEqual(parse_motions(shell("motions")), house.motions())
            for index, log in enumerate(house.logs()):
                self.assertEqual(parse_log(log_text(log)), log)
                self.assertEqual(parse_log(shell(f"log {index}")), log)

    def test_a_house_built_by_a_shell(self):
        for seed in range(60):
            house = any_house(seed)
            commands = [f"fit {word}" for word in lamps_text(house.lamps()).split(" ") if word != "none"]
            commands.extend("burst {} {} {}".format(*run) for run in house.motions())
            other = House()
            Shell.fed(other, *commands)
            self.assertEqual(other, house)
            self.assertEqual(len(other), len(commands))


class Foretold(unittest.TestCase):
    def test_what_a_light_does_by_each_explanation(self):
        for seed in range(40):
            house = any_house(seed)
            lamps, logs = house.lamps(), house.logs()
            if not lamps or house.moved > 14:
                continue
            some = [explanation for explanation, _ in zip(each_explanation(lamps, logs), range(300))]
            for stay in (1, 3, 8):
                light = Light(lamps, logs, stay)
                for explanation in some[::7]:
                    log = log_of(("hold", stay), motions_of(explanation))
                    lit = {minute for on, off in log for minute in range(on, off)}
                    for minute in range((house.latest_minute or 0) + 30):
                        self.assertIn(light(minute), ("on", "open") if minute in lit else ("off", "open"))
                        self.assertEqual(minute in light, light(minute) == "on")

    def test_a_lamp_that_is_fitted_from_the_start_does_what_was_foretold(self):
        for seed in range(60):
            house = any_house(seed)
            lamps, logs, motions = house.lamps(), house.logs(), house.motions()
            for stay in (2, 5):
                told = light_log(lamps, logs, stay)
                log = log_of(("hold", stay), motions)
                for on, off, state in told:
                    lit = [minute for first, last in log for minute in range(max(first, on), min(last, off))]
                    self.assertTrue(state == "open" or len(lit) == off - on)
                self.assertTrue(all(any(on <= minute < off for on, off, _ in told)
                                    for first, last in log for minute in (first, last - 1)))

    def test_a_needless_lamp_is_what_the_others_foretell(self):
        for seed in range(60):
            house = any_house(seed)
            lamps, logs = house.lamps(), house.logs()
            for index in range(len(lamps)):
                if is_needless(lamps, logs, index):
                    rest, beside = lamps[:index] + lamps[index + 1:], logs[:index] + logs[index + 1:]
                    self.assertIs(explains(lamps, logs, fewest_motions(rest, beside)), True)
                    self.assertIs(explains(lamps, logs, most_motions(rest, beside)), True)
                    self.assertEqual(fewest_count(lamps, logs), fewest_count(rest, beside))

    def test_sightings_of_what_happened_fit(self):
        for seed in range(60):
            house, choice = any_house(seed), random.Random(seed)
            lamps, logs, motions = house.lamps(), house.logs(), house.motions()
            sightings = []
            for _ in range(20):
                first = choice.randrange(120)
                last = first + choice.randrange(8)
                seen = motions_before(motions, last + 1) > motions_before(motions, first)
                sightings.append((first, last, seen))
            self.assertIs(sightings_fit(lamps, logs, *sightings), True)
            self.assertIsNone(first_misfit(lamps, logs, *sightings))
            quiet = [minute for minute in range(60) if state_of(lamps, logs, minute) == "quiet"]
            for minute in quiet[:3]:
                self.assertEqual(first_misfit(lamps, logs, *sightings, (minute, minute, True)), 20)

    def test_what_is_left_out_or_moved_still_explains(self):
        for seed in range(60):
            house = any_house(seed)
            lamps, logs, motions = house.lamps(), house.logs(), house.motions()
            minutes = tuple(minutes_of(motions))
            few = thinned(lamps, motions)
            self.assertIs(explains(lamps, logs, few), True)
            self.assertEqual(list(each_spare(lamps, few)), [])
            self.assertLessEqual(fewest_count(lamps, logs), count_motions(few))
            for index in range(0, len(minutes), 3):
                for minute in moving_range(lamps, motions, index):
                    moved = minutes[:index] + (minute,) + minutes[index + 1:]
                    self.assertIs(is_explanation(lamps, logs, moved), True)
                self.assertEqual(motion_at(motions, index), minutes[index])


if __name__ == "__main__":
    unittest.main()
