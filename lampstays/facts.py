"""Facts about motions: which minutes have one for sure, which have none, and which logs contradict each other."""

from lampstays.bounds import MAX_MINUTE
from lampstays.checks import is_index, is_minute, is_whole, last_minute
from lampstays.errors import NoIndex, NoMinute, OtherCount, TooLarge, Unexplained
from lampstays.lamps import is_motions, log_of, rounded_up
from lampstays.spans import common, how_many_in, is_within, overlaps, spans_beside


def stretch_fits(lamp, stretch):
    """Return whether some motions light the lamp just for this stretch."""
    kind, stay = lamp
    on, off = stretch
    if off - stay > MAX_MINUTE:
        return False
    if kind == "hold":
        return off - on >= stay
    return (off - on) % stay == 0


def wrong_stretches(lamp, log):
    """Return the ascending tuple of the indexes of the stretches that do not fit the lamp."""
    return tuple([index for index, stretch in enumerate(log) if not stretch_fits(lamp, stretch)])


def misfit(lamps, logs):
    """Return the smallest reason that begins with "stretch", None if there is none."""
    for number, (lamp, log) in enumerate(zip(lamps, logs)):
        wrong = wrong_stretches(lamp, log)
        if wrong:
            return ("stretch", number, wrong[0])
    return None


def check_fits(lamps, logs):
    """Raise Unexplained with the smallest reason that begins with "stretch", if there is one."""
    reason = misfit(lamps, logs)
    if reason is not None:
        raise Unexplained(reason)


def check_minute(minute):
    """Raise NoMinute if this is not a minute."""
    if not is_minute(minute):
        raise NoMinute(minute)


def check_counts(lamps, logs):
    """Raise OtherCount if there is not one log for each lamp."""
    if len(lamps) != len(logs):
        raise OtherCount(len(logs))


def sure_runs(lamp, log):
    """Return the motions at the sure minutes, with one run for each stretch."""
    check_fits((lamp,), (log,))
    return tuple([sure_run(lamp, stretch) for stretch in log])


def sure_run(lamp, stretch):
    """Return the run of the sure minutes of a stretch."""
    kind, stay = lamp
    on, off = stretch
    if off - on == stay:
        return (on, 1, 1)
    if kind == "hold":
        return (on, off - stay - on, 2)
    return (on, stay, (off - on) // stay)


def quiet_spans(lamp, log):
    """Return the ascending tuple of the longest spans of quiet minutes."""
    check_fits((lamp,), (log,))
    kind, stay = lamp
    # A hold lamp tells of every motion, a pulse lamp of none at a minute at which it is on already.
    unseen = 0 if kind == "pulse" else stay - 1
    spans = []
    begin = 0
    for on, off in log:
        spans.append((begin, on - 1))
        begin = off - unseen
    spans.append((begin, MAX_MINUTE))
    return tuple([(first, last) for first, last in spans if first <= last])


def call_spans(lamp, log):
    """Return the tuple of the spans, from on to off - stay, of the stretches in which there is a call."""
    check_fits((lamp,), (log,))
    kind, stay = lamp
    if kind == "pulse":
        return ()
    return tuple([(on, off - stay) for on, off in log if off - stay - on + 1 >= stay])


class Facts:
    """What a lamp and a log tell, all stretches of which fit the lamp."""

    def __init__(self, lamp, log):
        self.stay = lamp[1]
        self.sure_parts = [(run[0], last_minute(run), run[1]) for run in sure_runs(lamp, log)]
        self.quiet_parts = quiet_spans(lamp, log)
        self.call_parts = call_spans(lamp, log)


def sure_clash(one, other):
    """Return the first sure minute of the one that is quiet for the other, None if there is none."""
    for (first, last, step), (begin, end) in overlaps(one.sure_parts, other.quiet_parts):
        minute = step_from(first, step, begin)
        if minute <= min(last, end):
            return minute
    return None


def step_from(first, step, begin):
    """Return the first one of the minutes first, first + step, .. from begin on."""
    return first + step * rounded_up(max(0, begin - first), step)


def call_clash(one, other):
    """Return the first minute of the first call of the one that is all quiet for the other, None if there is none."""
    for call, quiet in overlaps(one.call_parts, other.quiet_parts):
        first, last = common(call, quiet)
        if last - first + 1 >= one.stay:
            return first
    return None


CLASHES = (("sure", sure_clash), ("call", call_clash))


def clash_reason(told):
    """Return the reason of verdict why these facts contradict each other, None if they do not."""
    for word, clash in CLASHES:
        for number, one in enumerate(told):
            minutes = [(clash(one, other), beside) for beside, other in enumerate(told)]
            found = [(minute, beside) for minute, beside in minutes if minute is not None]
            if found:
                minute, beside = min(found)
                return (word, number, minute, beside)
    return None


def facts_of(lamps, logs):
    """Return the list of the facts of each lamp."""
    return [Facts(lamp, log) for lamp, log in zip(lamps, logs)]


def contradiction(lamps, logs):
    """Return the reason of verdict, None if some motions explain the logs."""
    reason = misfit(lamps, logs)
    if reason is not None:
        return reason
    return clash_reason(facts_of(lamps, logs))


def has_log(lamp, motions, log):
    """Return whether this is the log of the lamp that sees the motions."""
    try:
        return log_of(lamp, motions) == log
    except TooLarge:
        return False


def give_logs(motions, lamps, logs):
    """Return whether the runs, perhaps more than motions have, give each lamp its log."""
    return all([has_log(lamp, motions, log) for lamp, log in zip(lamps, logs)])


def explains(lamps, logs, value):
    """Return whether value is motions that explain the logs."""
    check_counts(lamps, logs)
    return is_motions(value) and give_logs(value, lamps, logs)


def verdict(lamps, logs):
    """Return ("motions", motions) with motions that explain the logs, or the reason why there are none."""
    check_counts(lamps, logs)
    reason = contradiction(lamps, logs)
    if reason is not None:
        return reason
    # Each span begins when a lamp goes on, so there are not more of them than runs may be.
    return ("motions", tuple([(first, 1, last - first + 1) for first, last in not_quiet(lamps, logs)]))


def not_quiet(lamps, logs):
    """Return the longest spans of the minutes that are quiet for no lamp."""
    quiet = [span for lamp, log in zip(lamps, logs) for span in quiet_spans(lamp, log)]
    return spans_beside(sorted(quiet))


def verdict_holds(lamps, logs, value):
    """Return whether value is ("motions", motions) with motions that explain the logs, or a reason."""
    check_counts(lamps, logs)
    if not isinstance(value, tuple) or not value:
        return False
    if value[0] == "motions":
        return len(value) == 2 and explains(lamps, logs, value[1])
    if value[0] == "stretch":
        return len(value) == 3 and is_misfit(lamps, logs, value)
    return len(value) == 4 and is_clash(lamps, logs, value)


def is_misfit(lamps, logs, value):
    """Return whether a tuple of three items is a reason, if it begins with "stretch"."""
    _, number, index = value
    if not is_index(number, len(lamps)) or not is_index(index, len(logs[number])):
        return False
    return not stretch_fits(lamps[number], logs[number][index])


def is_clash(lamps, logs, value):
    """Return whether a tuple of four items is a reason that begins with "sure" or "call"."""
    word, number, minute, beside = value
    many = len(lamps)
    if not is_index(number, many) or not is_minute(minute) or not is_index(beside, many):
        return False
    both = [number, beside]
    if misfit([lamps[at] for at in both], [logs[at] for at in both]) is not None:
        return False
    lamp, log = lamps[number], logs[number]
    quiet = quiet_spans(lamps[beside], logs[beside])
    if word == "sure":
        return is_sure_minute(lamp, log, minute) and is_within(quiet, minute)
    last = minute + lamp[1] - 1
    return word == "call" and covers(call_spans(lamp, log), minute, last) and covers(quiet, minute, last)


def covers(spans, first, last):
    """Return whether one of the spans has all minutes from first to last."""
    return any([begin <= first and last <= end for begin, end in spans])


def is_sure_minute(lamp, log, minute):
    """Return whether this is a sure minute of the lamp."""
    runs = sure_runs(lamp, log)
    return any([run[0] <= minute <= last_minute(run) and (minute - run[0]) % run[1] == 0 for run in runs])


def possible_spans(lamps, logs):
    """Return the ascending tuple of the longest spans of possible minutes."""
    check_counts(lamps, logs)
    reason = contradiction(lamps, logs)
    if reason is not None:
        raise Unexplained(reason)
    return not_quiet(lamps, logs)


def state_of(lamps, logs, minute):
    """Return "sure", "quiet" or "open": what all motions that explain the logs do at this minute."""
    spans = possible_spans(lamps, logs)
    check_minute(minute)
    return state_beside(lamps, logs, spans, minute)


def state_beside(lamps, logs, spans, minute):
    """Return the state of a minute; the spans are those of the possible minutes."""
    if not is_within(spans, minute):
        return "quiet"
    if any([is_sure_minute(lamp, log, minute) for lamp, log in zip(lamps, logs)]):
        return "sure"
    stays = [stay for kind, stay in lamps if kind == "hold"]
    if not stays:
        return "open"
    # A stretch of each hold lamp goes on to both sides, so a call has no other possible minute if these are far apart.
    before = max([min(last, minute - 1) for first, last in spans if first < minute])
    behind = min([max(first, minute + 1) for first, last in spans if last > minute])
    return "sure" if behind - before > min(stays) else "open"


def at_odds(lamps, logs):
    """Return the ascending tuple of all pairs of numbers of lamps whose two logs no motions explain."""
    check_counts(lamps, logs)
    check_fits(lamps, logs)
    told = facts_of(lamps, logs)
    pairs = [(one, other) for one in range(len(told)) for other in range(one + 1, len(told))]
    return tuple([(one, other) for one, other in pairs if clash_reason([told[one], told[other]]) is not None])


def explained(lamps, logs, *chosen):
    """Return whether some motions explain the logs of the lamps with these numbers."""
    check_counts(lamps, logs)
    for value in chosen:
        if not is_index(value, len(lamps)):
            raise NoIndex(value)
    return contradiction([lamps[at] for at in chosen], [logs[at] for at in chosen]) is None


class Reading:
    """What logs tell about all minutes, as an object."""

    def __init__(self, lamps, logs):
        self._spans = possible_spans(lamps, logs)
        self._lamps = lamps
        self._logs = logs

    @property
    def spans(self):
        """The longest spans of possible minutes."""
        return self._spans

    @property
    def possible(self):
        """The number of the possible minutes."""
        return how_many_in(self._spans)

    def __call__(self, minute):
        check_minute(minute)
        return state_beside(self._lamps, self._logs, self._spans, minute)

    def __contains__(self, value):
        return is_whole(value) and is_within(self._spans, value)

    def __getitem__(self, index):
        if not is_index(index, len(self._spans)):
            raise NoIndex(index)
        return self._spans[index]

    def __iter__(self):
        raise TypeError("a reading is asked by index, by minute or for its spans, not looped over")

    def __len__(self):
        return len(self._spans)
