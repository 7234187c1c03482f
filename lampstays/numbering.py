"""The explanations of logs whose minutes are small, numbered in ascending order."""


class Numbering:
    """The explanations that some gaps allow; None stands for what comes behind their last minute."""

    def __init__(self, gaps):
        self.begin = gaps[0][0] if gaps else None
        self.following = {}
        for gap in gaps:
            for minute in range(gap[0], gap[2] + 1):
                self.following[minute] = choices(gap, minute)
        # What can follow a minute depends on the later ones only, so these are counted first.
        self.ways = {None: 1}
        for minute in sorted(list(self.following), reverse=True):
            self.ways[minute] = sum([self.ways[later] for later in self.following[minute]])

    def how_many(self):
        """Return the number of the explanations."""
        return self.ways[self.begin]

    def told_at(self, index):
        """Return the explanation with this number, which there is."""
        minutes = []
        minute, left = self.begin, index
        while minute is not None:
            minutes.append(minute)
            minute, left = self.choose(minute, left)
        return tuple(minutes)

    def choose(self, minute, index):
        """Return what follows a minute on the way from it with this index, and the index of the rest of the way."""
        left = index
        for later in self.following[minute]:
            if left < self.ways[later]:
                break
            left = left - self.ways[later]
        return later, left

    def place_of(self, explanation):
        """Return the number of an explanation."""
        number = 0
        for minute, later in zip(explanation, [*explanation[1:], None]):
            choice = self.following[minute]
            number = number + sum([self.ways[other] for other in choice[:choice.index(later)]])
        return number


def choices(gap, minute):
    """Return what can follow a motion at this minute of a gap: minutes or None, in the order of the explanations."""
    _, end, loose, stay = gap
    reach = loose if stay is None else min(loose, minute + stay)
    later = list(range(minute + 1, reach + 1))
    if end is None:
        return [None, *later]
    if stay is None or end - minute <= stay:
        return [*later, end]
    return later
