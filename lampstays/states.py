"""The states of houses, none of which ever changes, and the edits that lead from one to the next."""

from lampstays.bounds import MAX_LAMPS, MAX_RUNS
from lampstays.checks import is_index, is_minute, is_positive, last_minute
from lampstays.errors import BadLamp, NoCount, NoIndex, NoMinute, NotLater, TooLarge, TooMany
from lampstays.lamps import is_lamp, is_lit, log_of


class State:
    """The lamps of a house, each with the index of the first run that it sees, the runs, and the logs of the lamps."""

    def __init__(self, fitted, runs):
        self.fitted = fitted
        self.runs = runs
        self.told = tuple([log_of(lamp, runs[begin:]) for lamp, begin in fitted])


def begun(lamps, runs):
    """Return the state of a house whose lamps, which may be any values, have seen all of its motions."""
    for value in lamps:
        if not is_lamp(value):
            raise BadLamp(value)
    if len(lamps) > MAX_LAMPS:
        raise TooLarge(MAX_LAMPS)
    return State(tuple([(lamp, 0) for lamp in lamps]), runs)


def lamps_in(state):
    """Return the tuple of the lamps."""
    return tuple([lamp for lamp, _ in state.fitted])


def last_motion(state):
    """Return the last minute with a motion, None if there is none."""
    return last_minute(state.runs[-1]) if state.runs else None


def are_alike(one, other):
    """Return whether two states have equal lamps, motions and logs."""
    return lamps_in(one) == lamps_in(other) and one.runs == other.runs and one.told == other.told


def lamps_on(state, minute):
    """Return the ascending tuple of the indexes of the lamps that are on at this minute."""
    if not is_minute(minute):
        raise NoMinute(minute)
    return tuple([index for index, log in enumerate(state.told) if is_lit(log, minute)])


def is_bright(state, minute):
    """Return whether some lamp is on at this minute, which may be any value."""
    return any([is_lit(log, minute) for log in state.told])


def log_at(state, index):
    """Return the log of the lamp with this index."""
    if not is_index(index, len(state.told)):
        raise NoIndex(index)
    return state.told[index]


def changes_from(state, start):
    """Return the ascending list of (minute, index, is_on) for each change of a lamp from this minute on."""
    changes = []
    for index, log in enumerate(state.told):
        for on, off in log:
            changes.extend([(on, index, True), (off, index, False)])
    return sorted([change for change in changes if change[0] >= start])


def with_motion(state, minute):
    """Return the state after a single motion."""
    if not is_minute(minute):
        raise NoMinute(minute)
    return with_run(state, (minute, 1, 1))


def with_burst(state, first, step, count):
    """Return the state after some motions with the same number of minutes between them."""
    if not is_minute(first):
        raise NoMinute(first)
    for value in (step, count):
        if not is_positive(value):
            raise NoCount(value)
    run = (first, step, count) if count > 1 else (first, 1, 1)
    last = last_minute(run)
    if not is_minute(last):
        raise NoMinute(last)
    return with_run(state, run)


def with_run(state, run):
    """Return the state after a run."""
    last = last_motion(state)
    if last is not None and run[0] <= last:
        raise NotLater(run[0])
    if len(state.runs) == MAX_RUNS:
        raise TooMany(MAX_RUNS)
    return State(state.fitted, (*state.runs, run))


def with_lamp(state, lamp):
    """Return the state with one more lamp, which has not seen any motion."""
    if not is_lamp(lamp):
        raise BadLamp(lamp)
    if len(state.fitted) == MAX_LAMPS:
        raise TooLarge(MAX_LAMPS)
    return State((*state.fitted, (lamp, len(state.runs))), state.runs)


def without_lamp(state, index):
    """Return the state without the lamp with this index."""
    if not is_index(index, len(state.fitted)):
        raise NoIndex(index)
    return State(state.fitted[:index] + state.fitted[index + 1:], state.runs)


# The numbers of arguments stand here, too, since the form of a whole batch is asked for before any edit is done.
EDITS = {"motion": (with_motion, 1), "burst": (with_burst, 3), "fit": (with_lamp, 1), "remove": (without_lamp, 1)}


def is_edit(value):
    """Return whether value is a tuple in the form of an edit, whatever the arguments are."""
    if not isinstance(value, tuple) or not value or not isinstance(value[0], str) or value[0] not in EDITS:
        return False
    _, many = EDITS[value[0]]
    return len(value) == 1 + many


def edited(state, edit):
    """Return the state after an edit."""
    name, *values = edit
    change, _ = EDITS[name]
    return change(state, *values)
