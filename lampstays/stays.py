"""Stays: which lamps a log can come from, and what tells two lamps apart."""

from math import gcd, isqrt

from lampstays.bounds import MAX_MINUTE
from lampstays.errors import BadLamp, BadLog, NoKind, TooLarge
from lampstays.facts import Facts, check_counts, clash_reason, facts_of, possible_spans, step_from, wrong_stretches
from lampstays.lamps import KINDS, is_lamp, log_error, log_of
from lampstays.spans import how_many_in, is_within, overlaps, shared, spans_beside


def check_kind(kind):
    """Raise NoKind if this is not the kind of a lamp."""
    if kind not in KINDS:
        raise NoKind(kind)


def fits(lamp, log):
    """Return whether the log is that of the lamp for some minutes of motion."""
    return wrong_stretches(lamp, log) == ()


def fitting(log, *lamps):
    """Return the ascending tuple of the indexes of those lamps that fit the log."""
    for value in lamps:
        if not is_lamp(value):
            raise BadLamp(value)
    return tuple([index for index, lamp in enumerate(lamps) if fits(lamp, log)])


def stays_of(kind, log):
    """Return the ranges of the stays with which a lamp of this kind fits the log."""
    check_kind(kind)
    return hold_ranges(log) if kind == "hold" else pulse_ranges(log)


def both_kinds(log):
    """Return the ranges of the stays with which lamps of both kinds fit the log."""
    # A stretch that fits a pulse lamp fits the hold lamp with this stay, too.
    return pulse_ranges(log)


def hold_ranges(stretches):
    """Return the ranges of the stays of the hold lamps that all these stretches fit."""
    least = [off - MAX_MINUTE for _, off in stretches]
    lengths = [off - on for on, off in stretches]
    low, high = max([1, *least]), min([MAX_MINUTE, *lengths])
    return ((low, high),) if low <= high else ()


def pulse_ranges(stretches):
    """Return the ranges of the stays of the pulse lamps that all these stretches fit."""
    # Without a stretch every stay fits, whatever the kind is.
    return ranges_of(pulse_stays(stretches)) if stretches else hold_ranges(())


def pulse_stays(stretches):
    """Return the ascending list of the stays of the pulse lamps that all these stretches fit; there are some."""
    length = 0
    for on, off in stretches:
        length = gcd(length, off - on)
    ranges = hold_ranges(stretches)
    return [stay for stay in divisors(length) if is_within(ranges, stay)]


def divisors(number):
    """Return the ascending list of the divisors of a number."""
    small = [by for by in range(1, isqrt(number) + 1) if number % by == 0]
    return small + [number // by for by in small[::-1] if by * by < number]


def ranges_of(stays):
    """Return the ranges of these ascending integers."""
    ranges = []
    for stay in stays:
        if ranges and ranges[-1][1] == stay - 1:
            ranges[-1] = (ranges[-1][0], stay)
        else:
            ranges.append((stay, stay))
    return tuple(ranges)


def stays_beside(kind, log, lamps, logs):
    """Return the ranges of the stays of one more lamp, of this kind and with this log, beside the lamps."""
    check_kind(kind)
    spans = possible_spans(lamps, logs)
    told = facts_of(lamps, logs)
    begins = [on for on, _ in log]
    begins.append(MAX_MINUTE + 1)
    # Before each minute at which the lamp goes on, the minutes from some one on are quiet for it.
    claims = [last_claim(told, begin - 1) for begin in begins]
    if claims[0] >= 0:
        return ()
    if not log:
        return stays_of(kind, ())
    if kind == "hold":
        return hold_beside(log, spans, claims[1:])
    return pulse_beside(log, spans, claims[1:])


def last_claim(told, until):
    """Return the last minute from which up to until not all minutes can be quiet, -1 if there is none."""
    claims = [-1]
    for facts in told:
        for first, last, step in facts.sure_parts:
            if first <= until:
                claims.append(first + step * ((min(last, until) - first) // step))
        # Behind the begin of the last call up to until, the minutes that are left are no call any more.
        starts = [(first, min(last, until) - facts.stay + 1) for first, last in facts.call_parts]
        claims.extend([start for first, start in starts if first <= start])
    return max(claims)


def hold_beside(log, spans, claims):
    """Return the stays of a hold lamp beside lamps with these possible spans and a claim behind each stretch."""
    holes = [(before[1], behind[0]) for before, behind in zip(spans, spans[1:])]
    # A hole has all of a call, unless the stay reaches over it, or the last sure minute comes before its end.
    least = [min(last - first, off - last + 1) for on, off in log for first, last in holes if on <= first]
    most = [off - claim for (_, off), claim in zip(log, claims)]
    ranges = shared(hold_ranges(log), ((max([1, *least]), min(most)),))
    for on, off in log:
        if not is_within(spans, on):
            return ()
        ranges = shared(ranges, [(off - last, off - first) for first, last in spans[::-1]])
    return ranges


def pulse_beside(log, spans, claims):
    """Return the stays of a pulse lamp beside lamps with these possible spans and a claim behind each stretch."""
    if any([off <= claim for (_, off), claim in zip(log, claims)]):
        return ()
    lit = [(on, off - 1) for on, off in log]
    blocked = overlaps(lit, spans_beside(spans))
    stays = pulse_stays(log)
    return ranges_of([stay for stay in stays if not any([is_blocked(stay, one, quiet) for one, quiet in blocked])])


def is_blocked(stay, lit, quiet):
    """Return whether a sure minute of a pulse lamp with this stay, which is lit for this span, is quiet."""
    first, last = lit
    minute = step_from(first, stay, quiet[0])
    return minute <= min(quiet[1], last + 1 - stay)


def arrangements(lamps, logs):
    """Return the ascending tuple of the orders of the indexes of the lamps in which these can be their logs."""
    check_counts(lamps, logs)
    told = [[Facts(lamp, log) if fits(lamp, log) else None for lamp in lamps] for log in logs]
    agreeing = agreements(told)
    found = [()]
    for place in range(len(logs)):
        found = [(*before, lamp) for before in found for lamp in range(len(lamps))
                 if lamp not in before and told[place][lamp] is not None
                 and all([(at, one, place, lamp) in agreeing for at, one in enumerate(before)])]
    return tuple(found)


def agreements(told):
    """Return a dict of all (place, lamp, later place, other lamp) whose facts do not contradict each other."""
    found = {}
    for later, row in enumerate(told):
        for place, before in enumerate(told[:later]):
            for lamp, one in enumerate(before):
                for beside, other in enumerate(row):
                    if one is not None and other is not None and clash_reason([one, other]) is None:
                        found[place, lamp, later, beside] = True
    return found


def first_difference(one, other, motions):
    """Return the first minute at which one lamp is on and the other one is off, None if there is none."""
    changes = [minute for stretch in log_of(one, motions) for minute in stretch]
    beside = [minute for stretch in log_of(other, motions) for minute in stretch]
    # Before the first change that only one lamp has, both change together.
    differing = sorted(set(changes) ^ set(beside))
    return differing[0] if differing else None


def least_example(one, other):
    """Return the fewest and smallest minutes of motions that give the lamps different logs, None if there are none."""
    if one == other:
        return None
    if one[1] != other[1]:
        return (0,)
    # A lamp of either kind with the stay 1 is on just at the minutes with motions.
    return None if one[1] == 1 else (0, 1)


class Stays:
    """The lamps that fit each of some logs, as an object."""

    def __init__(self, *logs):
        for value in logs:
            error = log_error(value)
            if error is not None:
                raise BadLog(error)
        stretches = [stretch for log in logs for stretch in log]
        self._days = logs
        self._holds = hold_ranges(stretches)
        self._pulses = pulse_ranges(stretches)

    @property
    def days(self):
        """The tuple of the logs."""
        return self._days

    def __getitem__(self, kind):
        check_kind(kind)
        return self._holds if kind == "hold" else self._pulses

    def __iter__(self):
        raise TypeError("stays are asked by kind or by lamp, not looped over")

    def __contains__(self, value):
        if not is_lamp(value):
            return False
        kind, stay = value
        return is_within(self._holds if kind == "hold" else self._pulses, stay)

    def __and__(self, other):
        if not isinstance(other, Stays):
            return NotImplemented
        days = self._days + other._days
        return Stays(*days)

    def __call__(self, motions):
        # Each stay of a pulse lamp is that of a hold lamp, too, and the logs of two hold lamps end apart.
        stays = [low for low, high in self._holds if low == high or not motions]
        logs = [log_or_none((kind, stay), motions) for kind in KINDS for stay in stays if (kind, stay) in self]
        if not logs or logs != logs[:1] * len(logs):
            return None
        return logs[0]

    def how_many(self):
        """Return the number of the lamps."""
        return how_many_in(self._holds) + how_many_in(self._pulses)

    def __bool__(self):
        return bool(self._holds)

    def __eq__(self, other):
        return isinstance(other, Stays) and self._holds == other._holds and self._pulses == other._pulses

    def __str__(self):
        return f"{self.how_many():,} lamps"


def log_or_none(lamp, motions):
    """Return the log of the lamp that sees the motions, None if it would have too many stretches."""
    try:
        return log_of(lamp, motions)
    except TooLarge:
        return None
