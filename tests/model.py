"""A house as the document tells of it, which works everything out again from its edits, minute by minute."""

from helpers import minutes_of, watched
from lampstays.houses import House, MeteredHouse

TOP = 10 ** 9
KINDS = (House, MeteredHouse)
ALONE = tuple((2 * at, 1, 1) for at in range(60))


def seen(house):
    """All that a house tells, to see that it stays as it is."""
    versions = range(len(house) + 1)
    told = [(house.lamps(version=at), house.motions(version=at), house.logs(version=at)) for at in versions]
    more = (house.burnt, house.cap) if isinstance(house, MeteredHouse) else ()
    return [told, house.lamps(), house.motions(), house.logs(), house.edits(), house.many, house.moved,
            house.latest_minute, len(house), str(house), bool(house), list(house.each_change()), *more]


def any_lamps(choice, many, stay):
    """Fewer lamps than so many, with stays less than this one."""
    return tuple((choice.choice(("hold", "pulse")), choice.randrange(1, stay)) for _ in range(choice.randrange(many)))


def is_whole(value):
    return isinstance(value, int) and not isinstance(value, bool)


def is_minute(value):
    return is_whole(value) and 0 <= value <= TOP


def is_lamp(value):
    return (isinstance(value, tuple) and len(value) == 2 and value[0] in ("hold", "pulse")
            and is_whole(value[1]) and 1 <= value[1] <= TOP)


class Plan:
    """What a house has after some edits, each of which must be possible."""

    def __init__(self, lamps, motions=(), edits=()):
        self.fitted = [(lamp, 0) for lamp in lamps]
        self.runs = tuple(motions)
        for edit in edits:
            self.do(edit)

    def do(self, edit):
        name, *values = edit
        if name == "motion":
            self.runs += ((values[0], 1, 1),)
        elif name == "burst":
            self.runs += ((values[0], values[1] if values[2] > 1 else 1, values[2]),)
        elif name == "fit":
            self.fitted.append((values[0], len(self.runs)))
        else:
            del self.fitted[values[0]]

    def lamps(self):
        return tuple(lamp for lamp, _ in self.fitted)

    def logs(self):
        return tuple(watched(lamp, minutes_of(self.runs[begin:])) for lamp, begin in self.fitted)

    def burnt(self):
        return tuple(sum(off - on for on, off in log) for log in self.logs())

    def error(self, edit, edits, cap=None):
        """The name of the error of one more edit, and its field, None if it has none; None if the edit is possible."""
        if edits >= 60:
            return "TooManyEdits", None
        name, *values = edit
        if name in ("motion", "burst"):
            return self.motion_error(edit, cap, *values)
        if name == "fit":
            if not is_lamp(values[0]):
                return "BadLamp", values[0]
            return ("TooLarge", 6) if len(self.fitted) == 6 else None
        return None if is_whole(values[0]) and 0 <= values[0] < len(self.fitted) else ("NoIndex", values[0])

    def motion_error(self, edit, cap, first, step=1, count=1):
        if not is_minute(first):
            return "NoMinute", first
        for value in (step, count):
            if not is_whole(value) or value < 1:
                return "NoCount", value
        if not is_minute(first + step * (count - 1)):
            return "NoMinute", first + step * (count - 1)
        if self.runs and first <= minutes_of(self.runs[-1:])[-1]:
            return "NotLater", first
        if len(self.runs) == 360:
            return "TooMany", 360
        after = Plan((), self.runs)
        after.fitted = list(self.fitted)
        after.do(edit)
        if any(len(log) > 60 for log in after.logs()):
            return "TooLarge", 60
        bright = [index for index, minutes in enumerate(after.burnt()) if cap is not None and minutes > cap]
        return ("TooBright", bright[0]) if bright else None
