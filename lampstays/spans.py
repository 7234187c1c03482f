"""Spans of minutes, and other pairs (first, last, ..) of integers that stand for all from first to last."""

from lampstays.bounds import MAX_MINUTE


def common(one, two):
    """Return the part that two pairs share; its second number is less than its first one if they stay apart."""
    return (max(one[0], two[0]), min(one[1], two[1]))


def overlaps(ones, others):
    """Return the pairs of one of the ones and one of the others that share a number; both ascend and stay apart."""
    found = []
    at = beside = 0
    while at < len(ones) and beside < len(others):
        one, other = ones[at], others[beside]
        first, last = common(one, other)
        if first <= last:
            found.append((one, other))
        if one[1] < other[1]:
            at += 1
        else:
            beside += 1
    return found


def shared(ones, others):
    """Return what is in the ones and in the others, as pairs; both ascend and stay apart."""
    return tuple([common(one, other) for one, other in overlaps(ones, others)])


def spans_beside(spans, top=MAX_MINUTE):
    """Return the longest spans of minutes up to top in none of these spans, which come in order and may overlap."""
    found = []
    begin = 0
    for first, last in spans:
        if begin < first:
            found.append((begin, first - 1))
        begin = max(begin, last + 1)
    if begin <= top:
        found.append((begin, top))
    return tuple(found)


def is_within(spans, number):
    """Return whether one of the spans has this number."""
    return any([first <= number <= last for first, last in spans])


def first_from(spans, minute):
    """Return the first minute of ascending spans from this one on, None if there is none."""
    for first, last in spans:
        if minute <= last:
            return max(first, minute)
    return None


def how_many_in(spans):
    """Return how many integers spans that stay apart stand for."""
    return sum([last - first + 1 for first, last in spans])
