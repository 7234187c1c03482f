"""What counts as an integer, a minute, an index, a run and a stretch."""

from lampstays.bounds import LIMIT, MAX_MINUTE


def is_whole(value):
    """Return whether value is an integer."""
    # A bool is an int for Python, but no integer for this package.
    return isinstance(value, int) and not isinstance(value, bool)


def is_whole_tuple(value, many):
    """Return whether value is a tuple of so many integers."""
    return isinstance(value, tuple) and len(value) == many and all([is_whole(item) for item in value])


def is_minute(value):
    """Return whether value is a minute."""
    return is_whole(value) and 0 <= value <= MAX_MINUTE


def is_stay(value):
    """Return whether value is the stay of a lamp."""
    return is_whole(value) and 1 <= value <= MAX_MINUTE


def is_within_limit(value):
    """Return whether value is an integer from 0 to LIMIT."""
    return is_whole(value) and 0 <= value <= LIMIT


def is_positive(value):
    """Return whether value is an integer from 1 on."""
    return is_whole(value) and value >= 1


def are_minutes(value):
    """Return whether value is an ascending tuple of minutes."""
    if not isinstance(value, tuple) or not all([is_minute(item) for item in value]):
        return False
    return all([one < other for one, other in zip(value, value[1:])])


def is_index(value, many):
    """Return whether value is the index of one of so many things."""
    return is_whole(value) and 0 <= value < many


def last_minute(run):
    """Return the minute of the last motion of a run."""
    first, step, count = run
    return first + step * (count - 1)


def is_run(value):
    """Return whether value is a run."""
    if not is_whole_tuple(value, 3):
        return False
    first, step, count = value
    if first < 0 or step < 1 or count < 1:
        return False
    if count == 1 and step != 1:
        return False
    return last_minute(value) <= MAX_MINUTE


def is_stretch(value):
    """Return whether value is a stretch that a log may have."""
    if not is_whole_tuple(value, 2):
        return False
    on, off = value
    return 0 <= on < off <= LIMIT
