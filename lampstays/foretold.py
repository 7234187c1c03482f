"""What another lamp would have done, what else agrees with the logs, and which motions a house could do without."""

from lampstays.bounds import LIMIT, LISTED, MAX_MINUTE, SMALL
from lampstays.checks import is_index, is_minute, is_stay, is_within_limit
from lampstays.errors import BadSighting, NoCount, NoIndex, NoMinute, TooLarge
from lampstays.facts import sure_runs
from lampstays.fewest import check_listed, gaps, is_fixed, loose_spans, sure_spans
from lampstays.lamps import count_motions, each_motion, joined, lighting_runs, log_of, motion_at, motions_of
from lampstays.spans import common, how_many_in, overlaps, shared, spans_beside


def light_log(lamps, logs, stay):
    """Return the ascending tuple of the longest stretches (on, off, state) of a light that are not "off"."""
    found = gaps(lamps, logs)
    if not is_stay(stay):
        raise NoCount(stay)
    sure = joined([piece for gap in found for piece in sure_pieces(gap, stay)])
    possible = joined([(first, last + stay) for first, last in loose_spans(found)])
    lit = [(on, off - 1) for on, off in sure]
    unclear = shared([(on, off - 1) for on, off in possible], spans_beside(lit, LIMIT))
    items = [(on, off, "on") for on, off in sure]
    return tuple(sorted([*items, *[(first, last + 1, "open") for first, last in unclear]]))


def sure_pieces(gap, stay):
    """Return from when to when a light with this stay is on for sure, by what a gap tells."""
    begin, end, loose, apart = gap
    pieces = [(begin, begin + stay)] if is_fixed(begin) else []
    if apart is not None and stay >= apart:
        pieces.append((begin, end))
    elif apart is not None and loose < end - apart + stay:
        # The last motion before the end comes apart minutes before it at the earliest, and there is none behind loose.
        pieces.append((loose, end - apart + stay))
    return pieces


def state_in(items, minute):
    """Return the state of a light with these items at a minute."""
    for on, off, state in items:
        if on <= minute < off:
            return state
    return "off"


def check_light_minute(minute):
    """Raise NoMinute if this is not a minute at which a light has a state."""
    if not is_within_limit(minute):
        raise NoMinute(minute)


def light_state(lamps, logs, stay, minute):
    """Return the state of a light at a minute."""
    items = light_log(lamps, logs, stay)
    check_light_minute(minute)
    return state_in(items, minute)


def each_light(lamps, logs, stay, *, start=0):
    """Yield the items of light_log from the index start on."""
    items = light_log(lamps, logs, stay)
    for index in range(start, len(items)):
        yield items[index]


class Light:
    """What a light does by all motions that explain logs, as an object."""

    def __init__(self, lamps, logs, stay):
        self._items = light_log(lamps, logs, stay)

    @property
    def sure(self):
        """The number of minutes with the state "on"."""
        return how_long(self._items, "on")

    @property
    def unclear(self):
        """The number of minutes with the state "open"."""
        return how_long(self._items, "open")

    def __call__(self, minute):
        check_light_minute(minute)
        return state_in(self._items, minute)

    def __contains__(self, value):
        return is_within_limit(value) and state_in(self._items, value) == "on"

    def __getitem__(self, index):
        if not is_index(index, len(self._items)):
            raise NoIndex(index)
        return self._items[index]

    def __iter__(self):
        raise TypeError("a light is asked by index or by minute, not looped over")

    def __len__(self):
        return len(self._items)

    def __bool__(self):
        return bool(self._items)

    def __eq__(self, other):
        return isinstance(other, Light) and self._items == other._items

    def __str__(self):
        return "\n".join([f"{on:>14,}{off:>14,} {state}" for on, off, state in self._items])


def how_long(items, state):
    """Return the number of minutes with this state."""
    return sum([off - on for on, off, told in items if told == state])


def is_needless(lamps, logs, index):
    """Return whether all motions that explain the logs of the other lamps explain that of this one, too."""
    check_listed(lamps, logs)
    if not is_index(index, len(lamps)):
        raise NoIndex(index)
    others = lamps[:index] + lamps[index + 1:]
    beside = logs[:index] + logs[index + 1:]
    kind, stay = lamps[index]
    if kind == "hold":
        return light_log(others, beside, stay) == tuple([(on, off, "on") for on, off in logs[index]])
    return follows_pulse(gaps(others, beside), lamps[index], logs[index])


def follows_pulse(found, lamp, log):
    """Return whether all motions that the gaps allow give a pulse lamp this log, which fits it."""
    runs = sure_runs(lamp, log)
    asked = [(minute, minute) for minute in each_motion(runs)]
    sure = [span for gap in found for span in sure_spans(gap)]
    allowed = loose_spans(found)
    seen = shared(allowed, [(on, off - 1) for on, off in log])
    return len(overlaps(asked, sure)) == len(asked) and how_many_in(seen) == how_many_in(allowed)


def is_sighting(value):
    """Return whether value is a sighting."""
    if not isinstance(value, tuple) or len(value) != 3:
        return False
    first, last, seen = value
    return is_minute(first) and is_minute(last) and first <= last and isinstance(seen, bool)


def check_sightings(sightings):
    """Raise BadSighting with the index of the first value that is not a sighting."""
    for index, value in enumerate(sightings):
        if not is_sighting(value):
            raise BadSighting(index)


def sightings_fit(lamps, logs, *sightings):
    """Return whether some motions that explain the logs agree with all sightings."""
    found = gaps(lamps, logs)
    check_sightings(sightings)
    return agree(found, sightings)


def first_misfit(lamps, logs, *sightings):
    """Return the index of the first sighting that does not fit together with those before it, None if all fit."""
    found = gaps(lamps, logs)
    check_sightings(sightings)
    if agree(found, sightings):
        return None
    # With more sightings fewer motions agree, so the place behind which they do not fit any more can be halved in on.
    fitting, count = 0, len(sightings)
    while count - fitting > 1:
        half = (fitting + count) // 2
        if agree(found, sightings[:half]):
            fitting = half
        else:
            count = half
    return fitting


def agree(found, sightings):
    """Return whether some motions that the gaps allow agree with all these sightings."""
    free = spans_beside(sorted([(first, last) for first, last, seen in sightings if not seen]))
    fixed = [(gap[0], gap[0]) for gap in found if is_fixed(gap[0])]
    if len(overlaps(fixed, free)) < len(fixed):
        return False
    # If any motions agree, those at all the minutes that are left do.
    spans = [(*span, gap[3]) for span, gap in zip(loose_spans(found), found)]
    left = [(*common(span, part), span[2]) for span, part in overlaps(spans, free)]
    near = all([one[2] is None or other[0] - one[1] <= one[2] for one, other in zip(left, left[1:])])
    return near and all_seen(left, [(first, last) for first, last, seen in sightings if seen])


def all_seen(left, wanted):
    """Return whether each of the wanted spans has one of the minutes that are left."""
    at = 0
    for first, last in sorted(wanted):
        while at < len(left) and left[at][1] < first:
            at += 1
        if at == len(left) or last < left[at][0]:
            return False
    return True


def check_logs(lamps, motions):
    """Raise TooLarge if the log of one of the lamps has too many stretches."""
    for lamp in lamps:
        log_of(lamp, motions)


def around(motions, index):
    """Return the minute of the motion before this one, its own and that of the one behind it; None for no motion."""
    minute = motion_at(motions, index)
    before = motion_at(motions, index - 1) if index > 0 else None
    behind = motion_at(motions, index + 1) if index + 1 < count_motions(motions) else None
    return before, minute, behind


def last_lighting(stay, motions, minute):
    """Return the last minute up to that of a motion at which one lights a pulse lamp with this stay."""
    runs = [run for run in lighting_runs(stay, motions) if run[0] <= minute]
    # Behind the stay of its last lighting the motion would begin a run of its own, so it comes before one more step.
    first, step, _ = runs[-1]
    return first + step * ((minute - first) // step)


def is_bridged(lamps, before, behind):
    """Return whether no hold lamp needs a motion between these two minutes, None for no motion."""
    stays = [stay for kind, stay in lamps if kind == "hold"]
    # A motion at an end of all of them always shows.
    return not stays or (before is not None and behind is not None and behind - before <= min(stays))


def is_spare(lamps, motions, index):
    """Return whether all lamps have the same logs without the motion with this index."""
    check_logs(lamps, motions)
    before, minute, behind = around(motions, index)
    lighting = [last_lighting(stay, motions, minute) for kind, stay in lamps if kind == "pulse"]
    return minute not in lighting and is_bridged(lamps, before, behind)


def listed(motions, limit):
    """Return the list of the minutes of the motions, if there are not more than this limit."""
    if count_motions(motions) > limit:
        raise TooLarge(limit)
    return list(each_motion(motions))


def lighting_minutes(lamps, motions):
    """Return a dict with the minutes of the motions that light some pulse lamp."""
    told = [lighting_runs(stay, motions) for kind, stay in lamps if kind == "pulse"]
    return {minute: True for runs in told for minute in each_motion(runs)}


def each_spare(lamps, motions, *, start=0):
    """Yield the indexes of the motions from the index start on that are spare, each one by itself."""
    check_logs(lamps, motions)
    minutes = listed(motions, LISTED)
    lighting = lighting_minutes(lamps, motions)
    beside = [None, *minutes, None]
    for index in range(start, len(minutes)):
        if minutes[index] not in lighting and is_bridged(lamps, beside[index], beside[index + 2]):
            yield index


def moving_range(lamps, motions, index):
    """Return from when to when the motion can be moved between its neighbours without a change of a log."""
    check_logs(lamps, motions)
    before, minute, behind = around(motions, index)
    low = 0 if before is None else before + 1
    high = MAX_MINUTE if behind is None else behind - 1
    for kind, stay in lamps:
        if kind == "hold":
            reach = hold_reach(stay, before, minute, behind)
        else:
            lit = last_lighting(stay, motions, minute)
            reach = (lit, minute if lit == minute else lit + stay - 1)
        low, high = common((low, high), reach)
    return low, high


def hold_reach(stay, before, minute, behind):
    """Return from when to when a motion between two others, None for none, gives a hold lamp the same log."""
    if before is None or behind is None or minute - before > stay or behind - minute > stay:
        return (minute, minute)
    return (behind - stay, before + stay)


def thinned(lamps, motions):
    """Return the motions without those that are spare beside all that are left when it is their turn."""
    check_logs(lamps, motions)
    minutes = listed(motions, SMALL)
    # A pulse lamp does not see the motions that are left out, so the same ones light it without them.
    lighting = lighting_minutes(lamps, motions)
    kept = []
    for minute, behind in zip(minutes, [*minutes[1:], None]):
        before = kept[-1] if kept else None
        if minute in lighting or not is_bridged(lamps, before, behind):
            kept.append(minute)
    return motions_of(tuple(kept))
