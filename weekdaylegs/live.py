"""Live diaries: they change over time, and their changes can be undone."""

from weekdaylegs.decisions import decide, has_calendar
from weekdaylegs.errors import LimitExceeded, NoCalendar, NothingToUndo


class LiveDiary:
    """A diary that changes, with a log of its changes."""

    MAX_CHANGES = 50

    def __init__(self, diary):
        # Each diary stands here with the answer for it, since a property only reads and
        # undoing a change shall not decide anew.
        self._states = [(diary, has_calendar(diary))]
        self._changes = []

    @property
    def diary(self):
        """The current diary."""
        return self._states[-1][0]

    @property
    def is_possible(self):
        """Whether the current diary has a calendar."""
        return self._states[-1][1]

    @property
    def log(self):
        """The changes that have not been undone, the latest one last."""
        return tuple(self._changes)

    def __len__(self):
        return len(self._changes)

    def __eq__(self, other):
        return (
            isinstance(other, LiveDiary)
            and type(self) is type(other)
            and self._states[-1] == other._states[-1]
            and self._changes == other._changes
        )

    def tell(self, first, second, *, least=None, most=None):
        """Add bounds for the least and the most days from first to second."""
        diary = self.diary.between(first, second, least=least, most=most)
        self._change(diary, ("tell", first, second, least, most))

    def note(self, event, weekday):
        """Give an event this weekday, or None."""
        diary = self.diary.noting(event, weekday)
        self._change(diary, ("note", event, weekday))

    def would(self, *bounds):
        """Tell whether there would be a calendar with these bounds after the others."""
        return has_calendar(self.diary.adding(*bounds))

    def undo(self):
        """Undo the latest change."""
        if not self._changes:
            raise NothingToUndo()
        self._changes.pop()
        self._states.pop()

    def diaries(self):
        """Yield the diaries after 0, 1, 2, ... of the changes in the log."""
        for diary, _ in list(self._states):
            yield diary

    def copy(self):
        """Return an equal live diary, which changes on its own from now on."""
        twin = LiveDiary(self.diary)
        self._share_past(twin)
        return twin

    def _change(self, diary, change):
        """Replace the diary, and record the change that this is."""
        if len(self._changes) >= self.MAX_CHANGES:
            raise LimitExceeded(self.MAX_CHANGES)
        self._states.append((diary, has_calendar(diary)))
        self._changes.append(change)

    def _share_past(self, twin):
        """Give a twin, which begins with the current diary, all that came before."""
        twin._states = list(self._states)
        twin._changes = list(self._changes)


class CarefulDiary(LiveDiary):
    """A live diary that refuses changes after which there would be no calendar."""

    def __init__(self, diary):
        super().__init__(diary)
        if not self.is_possible:
            raise NoCalendar(decide(diary))

    def tell(self, first, second, *, least=None, most=None):
        """Add bounds for the days from first to second, unless there would be no calendar."""
        super().tell(first, second, least=least, most=most)
        self._refuse_impossible()

    def note(self, event, weekday):
        """Give an event this weekday, or None, unless there would be no calendar."""
        super().note(event, weekday)
        self._refuse_impossible()

    def copy(self):
        """Return an equal careful diary, which changes on its own from now on."""
        twin = CarefulDiary(self.diary)
        self._share_past(twin)
        return twin

    def _refuse_impossible(self):
        """Undo the latest change and raise NoCalendar if there is no calendar after it."""
        if not self.is_possible:
            refused = self.diary
            self.undo()
            raise NoCalendar(decide(refused))
