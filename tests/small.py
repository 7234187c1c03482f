"""All sets of a few minutes, gone through one by one: what they tell of lamps and logs by the words of the document."""

import functools
import itertools
import random

from helpers import watched

TOP = 10 ** 9
KINDS = ("hold", "pulse")
LAMPS = tuple((kind, stay) for kind in KINDS for stay in range(1, 5))


class Window:
    """The minutes from base on, so many of them; all motions that are tried are at these minutes."""

    def __init__(self, base, size):
        self.base = base
        self.minutes = tuple(range(base, min(base + size, TOP + 1)))
        self.sets = [some for count in range(size + 1) for some in itertools.combinations(self.minutes, count)]
        # Below the top a lamp that is on behind the last minute could see motions that are not tried.
        self.end = None if self.minutes[-1] == TOP else base + size

    @functools.lru_cache(maxsize=None)
    def log(self, lamp, minutes):
        shifted = watched(lamp, tuple(minute - self.base for minute in minutes))
        return tuple((on + self.base, off + self.base) for on, off in shifted)

    def is_inside(self, log):
        return self.end is None or not log or log[-1][1] <= self.end

    @functools.lru_cache(maxsize=None)
    def logs_of(self, lamp):
        """All logs of a lamp that are told by these minutes alone, each with the sets that have it."""
        found = {}
        for some in self.sets:
            log = self.log(lamp, some)
            if self.is_inside(log):
                found.setdefault(log, []).append(some)
        return found

    def told(self, lamps):
        """All tuples of logs of the lamps that some set explains, each with all sets that do."""
        found = {}
        for some in self.sets:
            logs = tuple(self.log(lamp, some) for lamp in lamps)
            if all(self.is_inside(log) for log in logs):
                found.setdefault(logs, []).append(some)
        return found

    def explaining(self, lamps, logs):
        """All sets that explain the logs."""
        return [some for some in self.sets if all(self.log(lamp, some) == log for lamp, log in zip(lamps, logs))]


LOW = Window(0, 7)
HIGH = Window(TOP - 5, 6)


def singles(minutes):
    return tuple((minute, 1, 1) for minute in minutes)


def spans_at(minutes):
    """The longest spans of ascending minutes."""
    spans = []
    for minute in minutes:
        if spans and spans[-1][1] == minute - 1:
            spans[-1] = (spans[-1][0], minute)
        else:
            spans.append((minute, minute))
    return tuple(spans)


def union(sets):
    return sorted({minute for some in sets for minute in some})


def always(sets):
    return [minute for minute in union(sets) if all(minute in some for some in sets)]


def fits(lamp, stretch):
    kind, stay = lamp
    on, off = stretch
    return off - stay <= TOP and off - on >= stay and (kind == "hold" or (off - on) % stay == 0)


def sure(lamp, log):
    """The sure minutes of a log that fits."""
    kind, stay = lamp
    found = []
    for on, off in log:
        found.extend([on, off - stay] if kind == "hold" else range(on, off, stay))
    return sorted(set(found))


def is_quiet(lamp, log, minute):
    """Whether this is a quiet minute of a log that fits."""
    kind, stay = lamp
    if not 0 <= minute <= TOP:
        return False
    return not any(on <= minute <= (off - stay if kind == "hold" else off - 1) for on, off in log)


def calls(lamp, log):
    """The first minutes of the calls of a log that fits."""
    kind, stay = lamp
    if kind == "pulse":
        return []
    return [first for on, off in log for first in range(on, off) if first + stay - 1 <= off - stay]


def reasons(lamps, logs):
    """All reasons why no motions explain the logs, in ascending order."""
    pairs = list(zip(lamps, logs))
    found = [("stretch", number, index) for number, (lamp, log) in enumerate(pairs)
             for index, stretch in enumerate(log) if not fits(lamp, stretch)]
    right = [number for number, (lamp, log) in enumerate(pairs) if all(fits(lamp, stretch) for stretch in log)]
    for number, other in itertools.product(right, right):
        lamp, log = pairs[number]
        found.extend(("sure", number, minute, other) for minute in sure(lamp, log) if is_quiet(*pairs[other], minute))
        found.extend(("call", number, minute, other) for minute in calls(lamp, log)
                     if all(is_quiet(*pairs[other], minute + at) for at in range(lamp[1])))
    return sorted(found)


def expected_reason(lamps, logs):
    """The reason that verdict returns, None if there is none."""
    found = reasons(lamps, logs)
    for word in ("stretch", "sure", "call"):
        for reason in found:
            if reason[0] == word:
                return reason
    return None


def some_lamps(count, many, seed):
    """So many tuples of lamps, always the same ones."""
    choice = random.Random(seed)
    return [tuple(choice.choice(LAMPS) for _ in range(count)) for _ in range(many)]


def some_logs(window, count, many, seed):
    """So many pairs of lamps and logs, of the same motions and of different ones; some do not fit their lamps."""
    choice = random.Random(seed)
    for lamps in some_lamps(count, many, seed):
        sets = [choice.choice(window.sets) for _ in range(2)]
        logs = []
        for lamp in lamps:
            told = list(window.logs_of(choice.choice(LAMPS) if choice.random() < 0.1 else lamp))
            log = window.log(lamp, choice.choice(sets))
            logs.append(log if window.is_inside(log) and choice.random() < 0.8 else choice.choice(told))
        yield lamps, tuple(logs)
