"""The errors: each keeps as attributes what it is created with."""


class LampError(ValueError):
    """Any error of this package."""


class BadBatch(LampError):
    """A batch is not a short list or tuple of edits."""


class BadLamp(LampError):
    """The value is not a lamp."""

    def __init__(self, value):
        self.value = value


class BadLog(LampError):
    """A value is not a log; the error is what log_error tells of it."""

    def __init__(self, error):
        self.error = error


class BadMotions(LampError):
    """A value is not motions; the error is what motions_error tells of it."""

    def __init__(self, error):
        self.error = error


class BadSighting(LampError):
    """The value with this index is not a sighting."""

    def __init__(self, index):
        self.index = index


class BadText(LampError):
    """The word with this index is wrong; None stands for a value that is no string."""

    def __init__(self, index):
        self.index = index


class Busy(LampError):
    """A house is in the middle of a batch."""


class NoCount(LampError):
    """The value is not a number of the kind that is asked for."""

    def __init__(self, value):
        self.value = value


class NoExplanation(LampError):
    """The value with this index is not an explanation."""

    def __init__(self, index):
        self.index = index


class NoIndex(LampError):
    """There is nothing with this index."""

    def __init__(self, index):
        self.index = index


class NoKind(LampError):
    """The value is not a kind of lamps."""

    def __init__(self, value):
        self.value = value


class NoMinute(LampError):
    """The value is not a minute of the kind that is asked for."""

    def __init__(self, value):
        self.value = value


class NoVersion(LampError):
    """There is no state with this version."""

    def __init__(self, version):
        self.version = version


class NotLater(LampError):
    """The minute does not come behind the motions that are there."""

    def __init__(self, minute):
        self.minute = minute


class NothingToUndo(LampError):
    """No edit stands."""


class OtherCount(LampError):
    """There are so many logs, and another number of lamps."""

    def __init__(self, count):
        self.count = count


class Rejected(LampError):
    """The edit with this index of a batch raises an error."""

    def __init__(self, index):
        self.index = index


class TooBright(LampError):
    """The lamp with this index would be on for too long."""

    def __init__(self, index):
        self.index = index


class TooLarge(LampError):
    """A result would have more than this limit."""

    def __init__(self, limit):
        self.limit = limit


class TooMany(LampError):
    """There are as many as this limit already."""

    def __init__(self, limit):
        self.limit = limit


class TooManyEdits(LampError):
    """As many edits stand as may stand."""


class Unexplained(LampError):
    """There are no motions that explain the logs, for this reason."""

    def __init__(self, reason):
        self.reason = reason
