"""The exceptions of the package.

The fields hold the very objects that were passed. The messages are fixed texts,
because a passed value can have too many parts to be written out.
"""


class WeekdaylegsError(ValueError):
    """The base class of all exceptions of the package."""


class InvalidDiary(WeekdaylegsError):
    """A part of a diary, or an item of this part, is wrong."""

    def __init__(self, part, item=None):
        super().__init__("this is not a diary")
        self.part = part
        self.item = item


class InvalidEvent(WeekdaylegsError):
    """A value is not an event that is asked for."""

    def __init__(self, value):
        super().__init__("this is not such an event of the diary")
        self.value = value


class InvalidDays(WeekdaylegsError):
    """Days are not a calendar."""

    def __init__(self, part, item=None):
        super().__init__("these days are not a calendar of the diary")
        self.part = part
        self.item = item


class InvalidWalk(WeekdaylegsError):
    """Numbers of bounds are not a walk, a leg or a loop."""

    def __init__(self, spot=None):
        super().__init__("these bounds are not such a walk of the diary")
        self.spot = spot


class InvalidNumber(WeekdaylegsError):
    """A value is not an integer, or not one that is allowed here."""

    def __init__(self, value):
        super().__init__("this is not a number that is allowed here")
        self.value = value


class InvalidAnswer(WeekdaylegsError):
    """An answer is not correct."""

    def __init__(self, part):
        super().__init__("this answer is not correct")
        self.part = part


class NoCalendar(WeekdaylegsError):
    """A diary has no calendar."""

    def __init__(self, reason):
        super().__init__("the diary has no calendar")
        self.reason = reason
