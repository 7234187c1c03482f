"""Houses: lamps and motions that can be edited, with undo."""

from lampstays.bounds import BATCH
from lampstays.checks import is_index, is_run, is_within_limit
from lampstays.errors import (
    BadBatch, BadMotions, Busy, LampError, NoCount, NothingToUndo, NoVersion, Rejected, TooBright,
    TooManyEdits,
)
from lampstays.lamps import count_motions, how_long_lit, motions_error
from lampstays.states import (
    are_alike, begun, changes_from, edited, is_bright, is_edit, lamps_in, lamps_on, last_motion, log_at,
)


class House:
    """A house: its lamps, its motions, and the edits that stand."""

    LIMIT = 60

    def __init__(self, *lamps):
        # All states are kept, since each version can still be asked for, and undo goes back to the one before.
        self._states = (begun(lamps, ()),)
        self._edits = ()
        self._busy = False

    @classmethod
    def after(cls, motions, *lamps):
        """Return a house with these lamps that has these motions, without edits."""
        house = cls(*lamps)
        house._begin(motions)
        return house

    @staticmethod
    def is_run(value):
        """Return whether value is a run."""
        return is_run(value)

    def _begin(self, motions):
        """Let the house, which has no motions yet, have these."""
        error = motions_error(motions)
        if error is not None:
            raise BadMotions(error)
        self._states = (begun(lamps_in(self._states[0]), motions),)

    def _check_free(self):
        """Raise Busy in the middle of a batch."""
        if self._busy:
            raise Busy()

    def _edited(self, edit):
        """Return the state after one more edit."""
        return edited(self._states[-1], edit)

    def _do(self, edit):
        """Do an edit, also in the middle of a batch."""
        if len(self._edits) >= self.LIMIT:
            raise TooManyEdits()
        state = self._edited(edit)
        self._states = (*self._states, state)
        self._edits = (*self._edits, edit)

    def _do_alone(self, edit):
        """Do an edit that is no part of a batch; return the new version."""
        self._check_free()
        self._do(edit)
        return len(self._edits)

    def motion(self, minute):
        """Add a motion at this minute; return the new version."""
        return self._do_alone(("motion", minute))

    def burst(self, first, step, count):
        """Add so many motions from the minute first on, each step minutes behind the last; return the new version."""
        return self._do_alone(("burst", first, step, count))

    def fit(self, lamp):
        """Add a lamp, which has not seen any motion; return the new version."""
        return self._do_alone(("fit", lamp))

    def remove(self, index):
        """Take the lamp with this index away; return the new version."""
        return self._do_alone(("remove", index))

    def motion_all(self, *minutes):
        """Add a motion at each of these minutes, or none of them; return the new version."""
        self._check_free()
        states, edits = self._states, self._edits
        try:
            for minute in minutes:
                self._do(("motion", minute))
            states, edits = self._states, self._edits
        finally:
            self._states, self._edits = states, edits
        return len(self._edits)

    def undo(self):
        """Revert the last edit that stands; return the new version."""
        self._check_free()
        if not self._edits:
            raise NothingToUndo()
        self._states = self._states[:-1]
        self._edits = self._edits[:-1]
        return len(self._edits)

    def _state(self, version):
        """Return the state after so many edits, the present one for None."""
        if version is None:
            return self._states[-1]
        if not is_index(version, len(self._states)):
            raise NoVersion(version)
        return self._states[version]

    def lamps(self, *, version=None):
        """Return the tuple of the lamps."""
        return lamps_in(self._state(version))

    def motions(self, *, version=None):
        """Return the motions."""
        return self._state(version).runs

    def logs(self, *, version=None):
        """Return the tuple of the logs of the lamps."""
        return self._state(version).told

    def edits(self):
        """Return the tuple of the edits that stand."""
        return self._edits

    @property
    def many(self):
        """The number of the lamps."""
        return len(self._states[-1].fitted)

    @property
    def moved(self):
        """The number of the single motions."""
        return count_motions(self._states[-1].runs)

    @property
    def latest_minute(self):
        """The last minute with a motion, None if there is none."""
        return last_motion(self._states[-1])

    def each_change(self, *, start=0):
        """Yield (minute, index, is_on) for each minute from start on at which a lamp goes on or off, in order."""
        yield from changes_from(self._states[-1], start)

    def attempt(self, batch, *, on_step=None):
        """Do all edits of a batch, or none of them, and call on_step after each; return the new version."""
        self._check_free()
        planned = checked_batch(batch)
        states, edits = self._states, self._edits
        self._busy = True
        try:
            for index, edit in enumerate(planned):
                self._do_or_reject(index, edit)
                if on_step is not None:
                    on_step(self)
            states, edits = self._states, self._edits
        finally:
            self._states, self._edits = states, edits
            self._busy = False
        return len(self._edits)

    def _do_or_reject(self, index, edit):
        """Do the edit of a batch with this index."""
        try:
            self._do(edit)
        except LampError:
            raise Rejected(index)

    def copy(self):
        """Return a house in the same state with the same edits that stand."""
        twin = House()
        twin._follow(self)
        return twin

    def _follow(self, other):
        """Take over the states and the edits of another house."""
        self._states, self._edits = other._states, other._edits

    def __len__(self):
        return len(self._edits)

    def __eq__(self, other):
        return isinstance(other, House) and are_alike(self._states[-1], other._states[-1])

    def __str__(self):
        return f"{self.many} lamps, {self.moved:,} motions, {len(self._edits)} edits"

    def __call__(self, minute):
        return lamps_on(self._states[-1], minute)

    def __contains__(self, minute):
        return is_bright(self._states[-1], minute)

    def __getitem__(self, index):
        return log_at(self._states[-1], index)

    def __iter__(self):
        raise TypeError("a house is asked by index, by minute or for its logs, not looped over")

    def __bool__(self):
        return bool(self._states[-1].runs)


def checked_batch(batch):
    """Return the tuple of the edits of a batch."""
    if not isinstance(batch, (list, tuple)) or len(batch) > BATCH:
        raise BadBatch()
    if not all([is_edit(item) for item in batch]):
        raise BadBatch()
    return tuple(batch)


class MeteredHouse(House):
    """A house that keeps for how many minutes its lamps are on, perhaps with a cap for each lamp."""

    def __init__(self, *lamps, cap=None):
        super().__init__(*lamps)
        if cap is not None and not is_within_limit(cap):
            raise NoCount(cap)
        self._cap = cap

    @classmethod
    def after(cls, motions, *lamps):
        """Return a house with these lamps that has these motions, without edits and without a cap."""
        house = cls(*lamps)
        house._begin(motions)
        return house

    @property
    def burnt(self):
        """The tuple of the numbers of minutes at which the lamps are on."""
        return burnt_in(self._states[-1])

    @property
    def cap(self):
        """The number of minutes for which no lamp may be on longer, None if there is none."""
        return self._cap

    def _edited(self, edit):
        """Return the state after one more edit, in which no lamp is on for longer than the cap."""
        state = super()._edited(edit)
        if self._cap is not None:
            check_burnt(state, self._cap)
        return state

    def motion(self, minute):
        """Add a motion at this minute; return the new version."""
        return super().motion(minute)

    def burst(self, first, step, count):
        """Add so many motions from the minute first on, each step minutes behind the last; return the new version."""
        return super().burst(first, step, count)

    def fit(self, lamp):
        """Add a lamp, which has not seen any motion; return the new version."""
        return super().fit(lamp)

    def remove(self, index):
        """Take the lamp with this index away; return the new version."""
        return super().remove(index)

    def motion_all(self, *minutes):
        """Add a motion at each of these minutes, or none of them; return the new version."""
        return super().motion_all(*minutes)

    def undo(self):
        """Revert the last edit that stands; return the new version."""
        return super().undo()

    def lamps(self, *, version=None):
        """Return the tuple of the lamps."""
        return super().lamps(version=version)

    def motions(self, *, version=None):
        """Return the motions."""
        return super().motions(version=version)

    def logs(self, *, version=None):
        """Return the tuple of the logs of the lamps."""
        return super().logs(version=version)

    def edits(self):
        """Return the tuple of the edits that stand."""
        return super().edits()

    @property
    def many(self):
        """The number of the lamps."""
        return len(self._states[-1].fitted)

    @property
    def moved(self):
        """The number of the single motions."""
        return count_motions(self._states[-1].runs)

    @property
    def latest_minute(self):
        """The last minute with a motion, None if there is none."""
        return last_motion(self._states[-1])

    def each_change(self, *, start=0):
        """Yield (minute, index, is_on) for each minute from start on at which a lamp goes on or off, in order."""
        yield from changes_from(self._states[-1], start)

    def attempt(self, batch, *, on_step=None):
        """Do all edits of a batch, or none of them, and call on_step after each; return the new version."""
        return super().attempt(batch, on_step=on_step)

    def copy(self):
        """Return a house in the same state with the same edits that stand and the same cap."""
        twin = MeteredHouse(cap=self._cap)
        twin._follow(self)
        return twin

    def __len__(self):
        return len(self._edits)

    def __eq__(self, other):
        return isinstance(other, House) and are_alike(self._states[-1], other._states[-1])

    def __str__(self):
        minutes = sum(self.burnt)
        return f"{self.many} lamps, {self.moved:,} motions, {len(self._edits)} edits, {minutes:,} minutes"

    def __call__(self, minute):
        return lamps_on(self._states[-1], minute)

    def __contains__(self, minute):
        return is_bright(self._states[-1], minute)

    def __getitem__(self, index):
        return log_at(self._states[-1], index)

    def __bool__(self):
        return bool(self._states[-1].runs)


def burnt_in(state):
    """Return the tuple of the numbers of minutes at which the lamps are on."""
    return tuple([how_long_lit(log) for log in state.told])


def check_burnt(state, cap):
    """Raise TooBright with the index of the first lamp that is on for longer than the cap."""
    for index, minutes in enumerate(burnt_in(state)):
        if minutes > cap:
            raise TooBright(index)
