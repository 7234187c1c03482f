"""The fewest and the most motions that explain logs, and all explanations in their order."""

from lampstays.bounds import LISTED, MAX_MINUTE, MAX_RUNS, SMALL
from lampstays.checks import are_minutes, is_index, is_whole_tuple
from lampstays.errors import NoExplanation, NoIndex, TooLarge
from lampstays.facts import check_minute, explains, give_logs, possible_spans, sure_runs
from lampstays.lamps import at_most, count_motions, each_motion, rounded_up, runs_of
from lampstays.numbering import Numbering
from lampstays.spans import first_from, how_many_in, overlaps


def gaps(lamps, logs):
    """Return the tuple of the gaps (begin, end, loose, stay), one for each fixed minute."""
    spans = possible_spans(lamps, logs)
    if not lamps:
        return ((-1, None, MAX_MINUTE, None),)
    fixed = fixed_minutes(lamps, logs)
    # The minutes behind a fixed one are possible up to the next one, or all from some one on are not.
    lasts = [span[1] for _, span in overlaps([(minute, minute) for minute in fixed], spans)]
    stays = least_stays(fixed, lamps, logs)
    found = [(begin, end, min(last, end - 1), stay)
             for begin, end, last, stay in zip(fixed, fixed[1:], lasts, stays)]
    if fixed:
        found.append((fixed[-1], None, lasts[-1], None))
    return tuple(found)


def fixed_minutes(lamps, logs):
    """Return the ascending list of the fixed minutes of all lamps."""
    told = [sure_runs(lamp, log) for lamp, log in zip(lamps, logs)]
    # The fixed minutes of one lamp are all different, so too many of them need not be gone through.
    if max([count_motions(runs) for runs in told], default=0) > LISTED:
        raise TooLarge(LISTED)
    return at_most(LISTED, sorted({minute for runs in told for minute in each_motion(runs)}))


def least_stays(fixed, lamps, logs):
    """Return for each fixed minute the least stay of the hold lamps lit from it to the next one, None for none."""
    places = {minute: at for at, minute in enumerate(fixed)}
    found = [None for _ in fixed]
    for (kind, stay), log in zip(lamps, logs):
        if kind == "hold":
            for on, off in log:
                for at in range(places[on], places[off - stay]):
                    found[at] = stay if found[at] is None else min(found[at], stay)
    return found


def further(gap):
    """Return how many motions there must be between the fixed minutes of a gap."""
    begin, end, _, stay = gap
    return 0 if stay is None else (end - begin - 1) // stay


def is_fixed(minute):
    """Return whether the begin of a gap is a fixed minute; without lamps it is none."""
    return minute >= 0


def fewest_count(lamps, logs):
    """Return the least number of motions that explain the logs."""
    return sum([further(gap) + (1 if is_fixed(gap[0]) else 0) for gap in gaps(lamps, logs)])


def most_count(lamps, logs):
    """Return the greatest number of motions that explain the logs."""
    return how_many_in(loose_spans(gaps(lamps, logs)))


def loose_spans(found):
    """Return for each gap the span of its first minute, if it is fixed, and of its loose minutes."""
    return [(max(0, begin), loose) for begin, _, loose, _ in found]


def fewest_motions(lamps, logs):
    """Return the motions that explain the logs with the fewest motions, each of which is as early as possible."""
    pieces = []
    for gap in gaps(lamps, logs):
        begin, end, _, stay = gap
        count = further(gap)
        if is_fixed(begin):
            pieces.append((begin, 1, 1))
        if count > 0:
            pieces.append((end - stay * count, stay, count))
    return at_most(MAX_RUNS, runs_of(pieces))


def most_motions(lamps, logs):
    """Return the motions at all fixed and loose minutes."""
    spans = loose_spans(gaps(lamps, logs))
    return at_most(MAX_RUNS, runs_of([(first, 1, last - first + 1) for first, last in spans]))


def needs_of(lamps, logs):
    """Return needs that hold, with as many stretches as the fewest motions that explain the logs are."""
    needs = []
    for gap in gaps(lamps, logs):
        begin, _, _, stay = gap
        count = further(gap)
        if is_fixed(begin):
            needs.append((begin, 1, 1))
        if count > 0:
            needs.append((begin + 1, stay, count))
    return tuple(needs)


def fewest_holds(lamps, logs, value):
    """Return whether value is (motions, needs) that show that no fewer motions explain the logs."""
    found = gaps(lamps, logs)
    if not isinstance(value, tuple) or len(value) != 2:
        return False
    motions, needs = value
    if not explains(lamps, logs, motions) or not are_needs(needs):
        return False
    return sum([need[2] for need in needs]) == count_motions(motions) and needs_hold(found, needs)


def are_needs(value):
    """Return whether value is needs."""
    if not isinstance(value, tuple):
        return False
    before = -1
    for item in value:
        if not is_whole_tuple(item, 3) or item[0] <= before or min(item[1:]) < 1:
            return False
        before = need_end(item)
    return True


def need_end(need):
    """Return the last minute of a need."""
    first, length, count = need
    return first + length * count - 1


def needs_hold(found, needs):
    """Return whether the gaps allow no motions without one in each stretch of these needs."""
    if not needs:
        return True
    if not found:
        return False
    # No motion is needed before the first fixed minute, nor behind the last one.
    if needs[0][0] + needs[0][1] <= found[0][0] or found[-1][0] <= need_end(needs[-1]) - needs[-1][1]:
        return False
    asked = [(need[0], need_end(need), need) for need in needs]
    between = [(gap[0] + 1, gap[1] - 1, gap) for gap in found[:-1]]
    return all([holds_within(gap, need) for (_, _, need), (_, _, gap) in overlaps(asked, between)])


def holds_within(gap, need):
    """Return whether those stretches of the need hold that lie between the fixed minutes of the gap."""
    begin, end, _, stay = gap
    first, length, count = need
    least = max(0, rounded_up(begin + 1 - first, length))
    most = min(count, (end - first) // length) - 1
    if least > most:
        return True
    # If the first and the last one hold, all between do: those with loose minutes behind them are alike, and of
    # those without any the last one has the nearest loose minute before it.
    return stay is not None and all([
        room_beside(gap, first + length * at, first + length * (at + 1) - 1) > stay for at in (least, most)
    ])


def room_beside(gap, first, last):
    """Return how far the motions beside a stretch within the gap are apart, if there is none in it."""
    _, end, loose, _ = gap
    behind = last + 1 if last < loose else end
    return behind - min(first - 1, loose)


def next_sure(lamps, logs, minute):
    """Return the first minute from this one on at which all motions that explain the logs have a motion, or None."""
    spans = [span for gap in gaps(lamps, logs) for span in sure_spans(gap)]
    check_minute(minute)
    return first_from(spans, minute)


def next_possible(lamps, logs, minute):
    """Return the first minute from this one on at which some motions that explain the logs have a motion, or None."""
    spans = loose_spans(gaps(lamps, logs))
    check_minute(minute)
    return first_from(spans, minute)


def sure_spans(gap):
    """Return the spans of the minutes of a gap, but its end, at which there is a motion for sure."""
    begin, end, loose, stay = gap
    spans = [(begin, begin)] if is_fixed(begin) else []
    # Without the last loose minute the ones before it are too far from the end.
    if stay is not None and begin < loose and end - loose == stay:
        spans.append((begin + 1 if stay == 1 else loose, loose))
    return spans


def is_explanation(lamps, logs, value):
    """Return whether value is an explanation: the ascending tuple of the minutes of motions that explain the logs."""
    check_listed(lamps, logs)
    return is_told(lamps, logs, value)


def check_listed(lamps, logs):
    """Raise an error if the logs have no explanation, or too many fixed minutes."""
    gaps(lamps, logs)


def is_told(lamps, logs, value):
    """Return whether value is an explanation of logs that have one."""
    return are_minutes(value) and give_logs(runs_of([(minute, 1, 1) for minute in value]), lamps, logs)


def united(lamps, logs, *values):
    """Return the ascending tuple of the minutes of all these explanations."""
    check_listed(lamps, logs)
    for index, value in enumerate(values):
        if not is_told(lamps, logs, value):
            raise NoExplanation(index)
    return tuple(sorted({minute for value in values for minute in value}))


def numbered(lamps, logs):
    """Return the explanations as a Numbering, if their minutes are small."""
    found = gaps(lamps, logs)
    if found and found[-1][2] > SMALL:
        raise TooLarge(SMALL)
    return Numbering(found)


def count_explanations(lamps, logs):
    """Return the number of the explanations."""
    return numbered(lamps, logs).how_many()


def explanation_at(lamps, logs, index):
    """Return the explanation with this number."""
    numbering = numbered(lamps, logs)
    if not is_index(index, numbering.how_many()):
        raise NoIndex(index)
    return numbering.told_at(index)


def explanation_index(lamps, logs, value):
    """Return the number of an explanation."""
    numbering = numbered(lamps, logs)
    if not is_told(lamps, logs, value):
        raise NoExplanation(0)
    return numbering.place_of(value)


def each_explanation(lamps, logs, *, start=0):
    """Yield the explanations by their numbers, from the number start on."""
    numbering = numbered(lamps, logs)
    for index in range(start, numbering.how_many()):
        yield numbering.told_at(index)
