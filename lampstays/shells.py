"""A shell: a house that is edited and asked by commands in words."""

from lampstays.bounds import HISTORY
from lampstays.errors import LampError
from lampstays.facts import state_of
from lampstays.fewest import fewest_count
from lampstays.texts import lamp_of, lamps_text, log_text, motions_text, number_of, words_text

UNKNOWN = "unknown command"


def do_motion(house, minute):
    """Add a motion."""
    return f"ok {house.motion(minute)}"


def do_burst(house, first, step, count):
    """Add a run of motions."""
    return f"ok {house.burst(first, step, count)}"


def do_fit(house, lamp):
    """Add a lamp."""
    return f"ok {house.fit(lamp)}"


def do_remove(house, index):
    """Take a lamp away."""
    return f"ok {house.remove(index)}"


def do_undo(house):
    """Revert the last edit."""
    return f"ok {house.undo()}"


def tell_lamps(house):
    """Tell the lamps."""
    return lamps_text(house.lamps())


def tell_motions(house):
    """Tell the motions."""
    return motions_text(house.motions())


def tell_log(house, index):
    """Tell the log of a lamp."""
    return log_text(house[index])


def tell_at(house, minute):
    """Tell which lamps are on at a minute."""
    return words_text([f"{index}" for index in house(minute)])


def tell_state(house, minute):
    """Tell what the logs tell about a minute."""
    return state_of(house.lamps(), house.logs(), minute)


def tell_fewest(house):
    """Tell the least number of motions that explain the logs."""
    return f"{fewest_count(house.lamps(), house.logs())}"


# The numbers of arguments stand here, too, since a command with others is unknown before the house is asked.
COMMANDS = {
    "motion": (do_motion, 1), "burst": (do_burst, 3), "fit": (do_fit, 1), "remove": (do_remove, 1),
    "undo": (do_undo, 0), "lamps": (tell_lamps, 0), "motions": (tell_motions, 0), "log": (tell_log, 1),
    "at": (tell_at, 1), "state": (tell_state, 1), "fewest": (tell_fewest, 0),
}


def answer_to(house, value):
    """Return the answer of a house to any value."""
    words = value.split(" ") if isinstance(value, str) else [""]
    if words[0] not in COMMANDS:
        return UNKNOWN
    action, many = COMMANDS[words[0]]
    read = lamp_of if words[0] == "fit" else number_of
    values = [read(text) for text in words[1:]]
    if len(values) != many or None in values:
        return UNKNOWN
    try:
        return action(house, *values)
    except LampError as error:
        return f"error {type(error).__name__}"


class Shell:
    """A shell on a house, with the last commands and their answers."""

    WORDS = ("motion", "burst", "fit", "remove", "undo", "lamps", "motions", "log", "at", "state", "fewest")

    def __init__(self, house):
        self._house = house
        self._pairs = ()

    @classmethod
    def fed(cls, house, *commands):
        """Return a shell on this house that has executed all these commands."""
        shell = cls(house)
        for value in commands:
            shell.execute(value)
        return shell

    @property
    def last(self):
        """The last pair of a command and its answer, None before the first command."""
        return self._pairs[-1] if self._pairs else None

    def execute(self, value):
        """Return the answer to a command, which may be any value."""
        answer = answer_to(self._house, value)
        command = value if isinstance(value, str) else None
        self._pairs = (*self._pairs, (command, answer))[-HISTORY:]
        return answer

    def transcript(self):
        """Return the tuple of the last pairs of a command and its answer, the oldest first."""
        return self._pairs

    def __call__(self, value):
        return self.execute(value)
