"""Lamps, motions and logs."""

from lampstays.bounds import MAX_RUNS, MAX_STRETCHES
from lampstays.checks import is_index, is_minute, is_run, is_stay, is_stretch, is_whole, last_minute
from lampstays.errors import BadLog, NoIndex, NoMinute, TooLarge
from lampstays.spans import common

KINDS = ("hold", "pulse")


def is_lamp(value):
    """Return whether value is a lamp."""
    if not isinstance(value, tuple) or len(value) != 2:
        return False
    kind, stay = value
    return kind in KINDS and is_stay(stay)


def motions_error(value):
    """Return what is wrong with value as motions, None if nothing is."""
    if not isinstance(value, tuple) or len(value) > MAX_RUNS:
        return (None, "motions")
    before = -1
    for index, item in enumerate(value):
        if not is_run(item):
            return (index, "run")
        if item[0] <= before:
            return (index, "order")
        before = last_minute(item)
    return None


def log_error(value):
    """Return what is wrong with value as a log, None if nothing is."""
    if not isinstance(value, tuple) or len(value) > MAX_STRETCHES:
        return (None, "log")
    before = -1
    for index, item in enumerate(value):
        if not is_stretch(item):
            return (index, "stretch")
        on, off = item
        if on <= before:
            return (index, "order")
        before = off
    return None


def is_motions(value):
    """Return whether value is motions."""
    return motions_error(value) is None


def is_log(value):
    """Return whether value is a log."""
    return log_error(value) is None


def log_of(lamp, motions):
    """Return the log of the lamp that sees the motions."""
    kind, stay = lamp
    lighting = motions if kind == "hold" else lighting_runs(stay, motions)
    pieces = []
    for run in lighting:
        pieces.extend(lit_pieces(stay, run))
    return at_most(MAX_STRETCHES, joined(pieces))


def lighting_runs(stay, motions):
    """Return the runs of those motions that light a pulse lamp with this stay."""
    found = []
    off = 0
    for first, step, count in motions:
        # The lamp does not see the motions before off, nor any of the next ones until its stay ends.
        unseen = rounded_up(max(0, off - first), step)
        apart = rounded_up(stay, step)
        if unseen < count:
            run = (first + step * unseen, step * apart, rounded_up(count - unseen, apart))
            found.append(run)
            off = last_minute(run) + stay
    return found


def rounded_up(number, by):
    """Return the number divided by another one, rounded up."""
    return (number + by - 1) // by


def lit_pieces(stay, run):
    """Return from when to when a lamp is on that each motion of the run lights."""
    first, step, count = run
    if step <= stay:
        return [(first, last_minute(run) + stay)]
    # These stretches stay apart, so one more than a log may have shows already that there are too many.
    shown = min(count, MAX_STRETCHES + 1)
    return [(first + step * at, first + step * at + stay) for at in range(shown)]


def joined(pieces):
    """Return the pieces, which come in order, with those that overlap or touch made one."""
    stretches = []
    for on, off in pieces:
        if stretches and on <= stretches[-1][1]:
            begin, end = stretches[-1]
            stretches[-1] = (begin, max(end, off))
        else:
            stretches.append((on, off))
    return tuple(stretches)


def at_most(limit, parts):
    """Return the parts, if there are not more than this limit."""
    if len(parts) > limit:
        raise TooLarge(limit)
    return parts


def motions_of(value):
    """Return the motions at the minutes of a tuple."""
    if not isinstance(value, tuple):
        raise NoMinute(value)
    before = -1
    for item in value:
        if not is_minute(item) or item <= before:
            raise NoMinute(item)
        before = item
    return at_most(MAX_RUNS, runs_of([(minute, 1, 1) for minute in value]))


def runs_of(pieces):
    """Return the runs at the minutes of these runs, which come in order; each takes as many minutes as it can."""
    runs = []
    for first, step, count in pieces:
        taken = 0
        if runs and follows(first, runs[-1]):
            begin, _, many = runs[-1]
            # The step is worked out anew, since a run of one motion has none of its own yet.
            apart = (first - begin) // many
            taken = count if step == apart else 1
            runs[-1] = (begin, apart, many + taken)
        if taken < count:
            left = count - taken
            runs.append((first + step * taken, step if left > 1 else 1, left))
    return tuple(runs)


def follows(minute, run):
    """Return whether the run can take this later minute, too."""
    first, step, count = run
    return count == 1 or minute == first + step * count


def count_motions(motions):
    """Return the number of the single motions."""
    return sum([run[2] for run in motions])


def motion_at(motions, index):
    """Return the minute of the motion with this index."""
    if is_whole(index) and index >= 0:
        before = 0
        for first, step, count in motions:
            if index < before + count:
                return first + step * (index - before)
            before += count
    raise NoIndex(index)


def motions_before(motions, minute):
    """Return how many motions come before this minute."""
    if not is_minute(minute):
        raise NoMinute(minute)
    return sum([min(count, rounded_up(minute - first, step)) for first, step, count in motions if first < minute])


def each_motion(motions, *, start=0):
    """Yield the minutes of the motions from the one with the index start on."""
    skipped = start
    for first, step, count in motions:
        for at in range(skipped, count):
            yield first + step * at
        skipped = max(0, skipped - count)


def is_lit(log, minute):
    """Return whether a lamp with this log is on at this minute, which may be any value."""
    return is_whole(minute) and any([on <= minute < off for on, off in log])


def how_long_lit(log):
    """Return the number of minutes at which a lamp with this log is on."""
    return sum([off - on for on, off in log])


class Log:
    """A log as an object."""

    def __init__(self, value):
        error = log_error(value)
        if error is not None:
            raise BadLog(error)
        self._stretches = value

    @property
    def stretches(self):
        """The log."""
        return self._stretches

    @property
    def lit(self):
        """The number of minutes at which the lamp is on."""
        return how_long_lit(self._stretches)

    def __contains__(self, minute):
        return is_lit(self._stretches, minute)

    def __getitem__(self, index):
        if not is_index(index, len(self._stretches)):
            raise NoIndex(index)
        return self._stretches[index]

    def __iter__(self):
        raise TypeError("a log is asked by index, by minute or for its stretches, not looped over")

    def __call__(self, minute):
        if not is_minute(minute):
            raise NoMinute(minute)
        for stretch in self._stretches:
            for change in stretch:
                if change > minute:
                    return change
        return None

    def __or__(self, other):
        if not isinstance(other, Log):
            return NotImplemented
        pieces = sorted([*self._stretches, *other._stretches])
        return Log(at_most(MAX_STRETCHES, joined(pieces)))

    def __and__(self, other):
        if not isinstance(other, Log):
            return NotImplemented
        pieces = [common(one, two) for one in self._stretches for two in other._stretches]
        return Log(at_most(MAX_STRETCHES, tuple([(on, off) for on, off in pieces if on < off])))

    def __len__(self):
        return len(self._stretches)

    def __bool__(self):
        return bool(self._stretches)

    def __eq__(self, other):
        return isinstance(other, Log) and self._stretches == other._stretches

    def __str__(self):
        return "\n".join([f"{on:>14,}{off:>14,}" for on, off in self._stretches])
