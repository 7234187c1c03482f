"""Points 1 to 3: nothing is changed by a call, and equal calls return equal results."""

import copy
import unittest

from helpers import WRONG
from lampstays import facts, fewest, foretold, lamps, stays, texts
from lampstays.errors import LampError
from lampstays.facts import Reading
from lampstays.foretold import Light
from lampstays.houses import House, MeteredHouse
from lampstays.lamps import Log
from lampstays.shells import Shell
from lampstays.stays import Stays
from stories import BOTH, BOTH_LOGS, LONG, LONG_LOGS

MOTIONS = ((3, 2, 3), (20, 1, 1), (24, 1, 1))
AT_ODDS = (("hold", 5), ("hold", 2)), (((3, 12),), ((3, 5),))

# Values with lists and dicts in them that are nearly what is asked for.
NEARLY = (
    (), 0, 3, 2 * 10 ** 9 + 1, ("motion", [3]), [["motion", 3]], [("motion", [3])], ("burst", 3, [1], 2), ("hold", [5]),
    [("motion", 9), ("fit", ["hold", 5])], [("motion", 9), ("burst", 12, 1, 3)], ["hold", 5], (3, [5], True),
    [3, 5, True], (3, 5, False), ([3], 5, True), {"a": {"b": [3]}}, "motion 9", "hold:5", "3-8 9-10", "3+2x3 20",
    "fit hold:2", "none",
)


def told(call, args):
    """The result of a call, or its error, in a form that can be compared."""
    try:
        return call(*args)
    except LampError as error:
        return [type(error).__name__, vars(error)]


class Conventions(unittest.TestCase):
    def calls(self):
        log = Log(((3, 8), (20, 29)))
        for value in (*WRONG, MOTIONS, (3, 5, 7), ((3, 8),), ("hold", 5), [(3, 2, 3)], [[3], [4]], {"a": [1]}, ([3],)):
            for name in ("is_lamp", "motions_error", "log_error", "is_motions", "is_log", "motions_of"):
                yield getattr(lamps, name), [value]
            yield lamps.motion_at, [MOTIONS, value]
            yield lamps.motions_before, [MOTIONS, value]
            yield lambda value: value in log, [value]
            yield lambda value: log[value], [value]
            yield log, [value]
            yield lambda value: Log(value).stretches, [value]
        for lamp in BOTH:
            yield lamps.log_of, [lamp, MOTIONS]
        yield lamps.count_motions, [MOTIONS]
        yield lambda motions: list(lamps.each_motion(motions, start=2)), [MOTIONS]
        yield from self.calls_of_values()
        yield from self.calls_of_logs()
        yield from self.calls_of_foretold()
        yield from self.calls_of_houses()

    def calls_of_values(self):
        """The calls of facts, stays and fewest with parameters that take any value."""
        reading, fitting = Reading(BOTH, BOTH_LOGS), Stays(((3, 12),))
        wrong = (("motions", [3]), ("sure", 0, [7], 1), (MOTIONS, [(3, 1, 1)]), [("hold", 5)], {"a": [(3, 8)]})
        for value in (*WRONG, MOTIONS, (3, 7, 20, 24), ("motions", MOTIONS), (MOTIONS, ((3, 1, 1),)), *wrong):
            for call in (facts.explains, facts.verdict_holds, facts.state_of, facts.explained, fewest.fewest_holds,
                         fewest.next_sure, fewest.next_possible, fewest.is_explanation, fewest.united,
                         fewest.explanation_at, fewest.explanation_index):
                yield call, [BOTH, BOTH_LOGS, value]
            yield stays.fitting, [((3, 12),), ("hold", 5), value]
            yield stays.stays_of, [value, ((3, 12),)]
            yield stays.stays_beside, [value, ((3, 12),), BOTH, BOTH_LOGS]
            yield reading, [value]
            yield lambda value: value in reading, [value]
            yield lambda value: reading[value], [value]
            yield lambda value: Stays(((3, 12),), value).days, [value]
            yield lambda value: value in fitting, [value]
            yield lambda value: fitting[value], [value]

    def calls_of_logs(self):
        """The calls of facts, stays and fewest with lamps and logs alone."""
        for told in ((BOTH, BOTH_LOGS), (LONG, LONG_LOGS), AT_ODDS, (BOTH, ())):
            for call in (facts.verdict, facts.possible_spans, facts.at_odds, stays.arrangements, fewest.gaps,
                         fewest.fewest_count, fewest.most_count, fewest.fewest_motions, fewest.most_motions,
                         fewest.needs_of, fewest.count_explanations):
                yield call, list(told)
            yield lambda lamps, logs: list(fewest.each_explanation(lamps, logs, start=3)), list(told)
            yield lambda lamps, logs: Reading(lamps, logs).spans, list(told)
        for lamp, log in zip(BOTH, BOTH_LOGS):
            for call in (facts.wrong_stretches, facts.sure_runs, facts.quiet_spans, facts.call_spans, stays.fits):
                yield call, [lamp, log]
            yield stays.both_kinds, [log]
            yield stays.first_difference, [lamp, BOTH[0], MOTIONS]
            yield stays.least_example, [lamp, BOTH[0]]
            yield lambda log: Stays(log)(MOTIONS), [log]
            yield lambda log: (Stays(log) & Stays(BOTH_LOGS[0]))["hold"], [log]

    def calls_of_foretold(self):
        """The calls of foretold, and those of texts, which go both ways."""
        light = Light(BOTH, BOTH_LOGS, 2)
        for value in (*WRONG, *NEARLY):
            for call in (foretold.light_log, foretold.is_needless, foretold.sightings_fit, foretold.first_misfit,
                         lambda *args: list(foretold.each_light(*args)), lambda *args: Light(*args).sure):
                yield call, [BOTH, BOTH_LOGS, value]
            yield foretold.light_state, [BOTH, BOTH_LOGS, value, 3]
            yield foretold.light_state, [BOTH, BOTH_LOGS, 3, value]
            yield foretold.first_misfit, [BOTH, BOTH_LOGS, (3, 3, True), value, (4, 5, False)]
            for call in (foretold.is_spare, foretold.moving_range):
                yield call, [BOTH, MOTIONS, value]
            yield light, [value]
            yield lambda value: value in light, [value]
            yield lambda value: light[value], [value]
            for call in (texts.parse_lamps, texts.parse_log, texts.parse_motions):
                yield call, [value]
        yield lambda *args: list(foretold.each_spare(*args, start=1)), [BOTH, MOTIONS]
        yield foretold.thinned, [BOTH, MOTIONS]
        for call, args in ((texts.lamps_text, BOTH), (texts.log_text, BOTH_LOGS[0]), (texts.motions_text, MOTIONS)):
            yield call, [args]

    def calls_of_houses(self):
        """The calls of new houses and shells."""
        edits = (
            lambda house, value: house.motion(value), lambda house, value: house.burst(value, 1, 2),
            lambda house, value: house.burst(50, value, 2), lambda house, value: house.burst(50, 1, value),
            lambda house, value: house.fit(value), lambda house, value: house.remove(value),
            lambda house, value: house.motion_all(30, value), lambda house, value: house.attempt(value),
            lambda house, value: house.logs(version=value), lambda house, value: house(value),
            lambda house, value: house[value], lambda house, value: value in house,
            lambda house, value: Shell(house)(value), lambda house, value: Shell.fed(house, value, value).transcript(),
        )

        def after(shape, edit, value):
            house = shape.after(MOTIONS, *BOTH)
            return [told(edit, [house, value]), house.logs(), house.edits(), str(house)]

        for value in (*WRONG, *NEARLY):
            for shape in (House, MeteredHouse):
                for edit in edits:
                    yield lambda value, shape=shape, edit=edit: after(shape, edit, value), [value]
                yield lambda value, shape=shape: shape(BOTH[0], value).lamps(), [value]
                yield lambda value, shape=shape: shape.after(value, *BOTH).logs(), [value]
                yield lambda value, shape=shape: shape.after(MOTIONS, value).logs(), [value]
            yield lambda value: MeteredHouse(BOTH[0], cap=value).cap, [value]
            yield House.is_run, [value]

    def test_arguments_stay_as_they_are_and_equal_calls_return_equal_results(self):
        for call, args in self.calls():
            before = copy.deepcopy(args)
            first = told(call, args)
            kept = copy.deepcopy(first)
            second = told(call, copy.deepcopy(args))
            self.assertEqual(args, before)
            self.assertEqual(first, kept)
            self.assertEqual(first, second)

    def test_later_changes_of_a_list_have_no_effect(self):
        value = [(3, 2, 3)]
        found = lamps.motions_error(value)
        value.append(None)
        self.assertEqual(found, (None, "motions"))

    def test_later_changes_of_what_a_house_was_passed_have_no_effect(self):
        house = House()
        batch = [("motion", 3), ("fit", ("hold", 5))]
        house.attempt(batch)
        batch[0] = ("motion", 4)
        batch.clear()
        self.assertEqual(house.edits(), (("motion", 3), ("fit", ("hold", 5))))
        shell, words = Shell(house), ["undo"]
        shell(words)
        words.append(3)
        self.assertEqual(shell.transcript(), ((None, "unknown command"),))

    def test_an_object_that_could_not_be_asked_is_as_before(self):
        log = Log(((3, 8), (20, 29)))
        for call in (lambda: log[2], lambda: log(-1), lambda: log(None), lambda: log[True]):
            self.assertRaises(LampError, call)
        self.assertEqual([log, log.lit, len(log)], [Log(((3, 8), (20, 29))), 14, 2])
        fitting = Stays(((3, 12),))
        for call in (lambda: fitting["on"], lambda: fitting[None], lambda: Stays(None), lambda: fitting[0]):
            self.assertRaises(LampError, call)
        self.assertEqual([fitting, fitting.days, fitting.how_many()], [Stays(((3, 12),)), (((3, 12),),), 12])

    def test_objects_stay_as_they_are(self):
        one, other = Stays(((3, 12),)), Stays(((0, 6), (8, 14)))
        both = one & other
        for _ in range(2):
            self.assertEqual([one.days, other.days], [(((3, 12),),), (((0, 6), (8, 14)),)])
            self.assertEqual(both.days, one.days + other.days)
            self.assertEqual([one(((3, 1, 1),)), one["hold"], both["pulse"]], [None, ((1, 9),), ((1, 1), (3, 3))])
        reading = Reading(BOTH, BOTH_LOGS)
        first = (reading.spans, reading.possible, [reading(minute) for minute in range(30)])
        self.assertEqual((reading.spans, reading.possible, [reading(minute) for minute in range(30)]), first)


if __name__ == "__main__":
    unittest.main()
