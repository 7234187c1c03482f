"""What several tests use: checks of errors, sessions of the document, wrong values, and a time limit."""

import signal

from lampstays import errors
from lampstays.lamps import Log

HUGE = 10 ** 99 + 7

# Values that are no minute, no index, no lamp, no motions and no log.
WRONG = (
    None, True, False, -1, -HUGE, HUGE, "", "3", "hold", "none", [], [3], [3, 8], [(3, 8)], [("hold", 5)],
    {}, {"on": 3}, (None,), ("hold",), ([],), ((),), ([3, 8],), (((3, 8),),), Log(((3, 8),)),
)


def names(error):
    """The error as the document writes it."""
    return "{}({})".format(type(error).__name__, ", ".join(repr(value) for value in vars(error).values()))


def check_raises(test, expected, call, *args, **more):
    """The call raises an error of just this class with just these attributes; returns it."""
    try:
        result = call(*args, **more)
    except errors.LampError as error:
        test.assertIs(type(error), type(expected), (names(error), names(expected)))
        test.assertEqual(names(error), names(expected))
        return error
    return test.fail("{} was returned instead of {}".format(result, names(expected)))


def check_session(test, text):
    """Every line of a session of the document has the result that stands below it."""
    space = {}
    rows = [row.strip(" ") if row.startswith(">>>") else row for row in text.strip("\n").split("\n")]
    for at, row in enumerate(rows):
        if not row.startswith(">>> "):
            continue
        code = row[len(">>> "):]
        wanted = rows[at + 1] if at + 1 < len(rows) else ""
        if wanted.startswith("raises "):
            expected = eval(wanted[len("raises "):], vars(errors))
            check_raises(test, expected, lambda code=code: eval(code, space))
        elif wanted == "" or wanted.startswith(">>> "):
            exec(code, space)
        else:
            test.assertEqual(repr(eval(code, space)), wanted)


class TooSlow(Exception):
    pass


def soon(call, seconds=2):
    """The result of a call that must not go through minutes or motions one by one."""
    def stop(number, frame):
        raise TooSlow(call)

    before = signal.signal(signal.SIGALRM, stop)
    signal.alarm(seconds)
    try:
        return call()
    finally:
        signal.alarm(0)
        signal.signal(signal.SIGALRM, before)


def minutes_of(motions):
    """All minutes of motions, one by one."""
    return [first + step * at for first, step, count in motions for at in range(count)]


def watched(lamp, minutes):
    """The log of a lamp that is watched minute by minute."""
    kind, stay = lamp
    off = -1
    lit = []
    for minute in range(max(minutes, default=0) + stay + 1):
        if minute in minutes and (kind == "hold" or minute >= off):
            off = minute + stay
        if minute < off:
            lit.append(minute)
    return stretches_at(lit)


def stretches_at(lit):
    """The longest stretches of ascending minutes."""
    log = []
    for minute in lit:
        if log and log[-1][1] == minute:
            log[-1] = (log[-1][0], minute + 1)
        else:
            log.append((minute, minute + 1))
    return tuple(log)
