"""The texts of lamps, logs and motions, and what they stand for."""

from lampstays.bounds import MAX_LAMPS, MAX_RUNS, MAX_STRETCHES
from lampstays.errors import BadText
from lampstays.lamps import is_lamp, log_error, motions_error

NONE = "none"

# No number that is asked for has more digits, and Python refuses to read numbers of very many.
DIGITS = 20


def lamps_text(lamps):
    """Return the text of lamps."""
    return words_text([lamp_text(lamp) for lamp in lamps])


def log_text(log):
    """Return the text of a log."""
    return words_text([f"{on}-{off}" for on, off in log])


def motions_text(motions):
    """Return the text of motions."""
    return words_text([run_text(run) for run in motions])


def words_text(words):
    """Return the words with one space between two, or the word for none."""
    return " ".join(words) if words else NONE


def lamp_text(lamp):
    """Return the text of a lamp."""
    kind, stay = lamp
    return f"{kind}:{stay}"


def run_text(run):
    """Return the text of a run."""
    first, step, count = run
    return f"{first}+{step}x{count}" if count > 1 else f"{first}"


def number_of(text):
    """Return the integer with this text, None if there is none or if it has more than 20 digits."""
    if len(text) > DIGITS or not text.isascii() or not text.isdigit():
        return None
    return None if text[0] == "0" and text != "0" else int(text)


def lamp_of(text):
    """Return the lamp with this text, None if there is none."""
    kind, _, stay = text.partition(":")
    lamp = (kind, number_of(stay))
    return lamp if is_lamp(lamp) else None


def stretch_of(text):
    """Return the pair of numbers with this text; one is None where there is none."""
    on, _, off = text.partition("-")
    return (number_of(on), number_of(off))


def run_of(text):
    """Return the three numbers with this text, None instead if it cannot be that of a run."""
    first, plus, rest = text.partition("+")
    if plus == "":
        return (number_of(first), 1, 1)
    step, _, count = rest.partition("x")
    run = (number_of(first), number_of(step), number_of(count))
    # A single motion has another text.
    return None if run[2] == 1 else run


def lamps_error(lamps):
    """Return (index, "lamp") for the first item that is not a lamp, None if there is none."""
    for index, lamp in enumerate(lamps):
        if not is_lamp(lamp):
            return (index, "lamp")
    return None


def parse_lamps(value):
    """Return the lamps whose text value is."""
    return parsed(value, lamp_of, lamps_error, MAX_LAMPS)


def parse_log(value):
    """Return the log whose text value is."""
    return parsed(value, stretch_of, log_error, MAX_STRETCHES)


def parse_motions(value):
    """Return the motions whose text value is."""
    return parsed(value, run_of, motions_error, MAX_RUNS)


def parsed(value, item_of, error_of, limit):
    """Return the items whose text value is; error_of tells which one is wrong of those that are not too many."""
    if not isinstance(value, str):
        raise BadText(None)
    if value == NONE:
        return ()
    items = tuple([item_of(word) for word in value.split(" ")])
    error = error_of(items[:limit])
    if error is not None:
        index, _ = error
        raise BadText(index)
    if len(items) > limit:
        raise BadText(limit)
    return items
