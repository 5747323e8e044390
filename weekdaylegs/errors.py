"""The exceptions of the package.

The fields hold the very objects that were passed. The messages are fixed texts,
because a passed value can have too many parts to be written out.
"""


class WeekdaylegsError(ValueError):
    """The base class of all exceptions of the package."""


class InvalidDiary(WeekdaylegsError):
    """A part of a diary, or an item of this part, is wrong."""

    def __init__(self, part, item=None):
        super().__init__("this is not a diary")
        self.part = part
        self.item = item


class InvalidEvent(WeekdaylegsError):
    """A value is not an event that is asked for."""

    def __init__(self, value):
        super().__init__("this is not such an event of the diary")
        self.value = value


class InvalidDays(WeekdaylegsError):
    """Days are not a calendar."""

    def __init__(self, part, item=None):
        super().__init__("these days are not a calendar of the diary")
        self.part = part
        self.item = item


class InvalidWalk(WeekdaylegsError):
    """Numbers of bounds are not a walk, a leg or a loop."""

    def __init__(self, spot=None):
        super().__init__("these bounds are not such a walk of the diary")
        self.spot = spot


class InvalidNumber(WeekdaylegsError):
    """A value is not an integer, or not one that is allowed here."""

    def __init__(self, value):
        super().__init__("this is not a number that is allowed here")
        self.value = value


class InvalidAnswer(WeekdaylegsError):
    """An answer is not correct."""

    def __init__(self, part):
        super().__init__("this answer is not correct")
        self.part = part


class NoCalendar(WeekdaylegsError):
    """A diary has no calendar."""

    def __init__(self, reason):
        super().__init__("the diary has no calendar")
        self.reason = reason


class InvalidWindow(WeekdaylegsError):
    """An end of a window is wrong."""

    def __init__(self, part):
        super().__init__("this is not a window")
        self.part = part


class InvalidRank(WeekdaylegsError):
    """A value is not the number of a calendar."""

    def __init__(self, value):
        super().__init__("this is not the number of a calendar in the window")
        self.value = value


class LimitExceeded(WeekdaylegsError):
    """There are more things than the limit allows."""

    def __init__(self, limit):
        super().__init__("there are more than the limit allows")
        self.limit = limit


class Mismatch(WeekdaylegsError):
    """Two diaries cannot be joined."""

    def __init__(self, part, spot=None):
        super().__init__("these diaries cannot be joined in this way")
        self.part = part
        self.spot = spot


class NothingToUndo(WeekdaylegsError):
    """There is no change that could be undone."""

    def __init__(self):
        super().__init__("there is no change to undo")


class ParseError(WeekdaylegsError):
    """A text is not the text of a diary."""

    def __init__(self, line, word):
        super().__init__("this is not the text of a diary")
        self.line = line
        self.word = word
