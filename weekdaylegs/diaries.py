"""Diaries, their events and their calendars."""

from weekdaylegs.errors import InvalidDays, InvalidDiary, InvalidEvent, InvalidNumber


def is_number(value):
    """Tell whether a value is an integer; True and False are none."""
    return isinstance(value, int) and not isinstance(value, bool)


def is_within(value, low, high):
    """Tell whether a value is an integer from low to high."""
    return is_number(value) and low <= value <= high


def need_number(value):
    """Raise InvalidNumber for a value that is not an integer."""
    if not is_number(value):
        raise InvalidNumber(value)


def is_tuple_of(value, low, high):
    """Tell whether a value is a tuple of low to high items."""
    return isinstance(value, tuple) and low <= len(value) <= high


def is_bound(value, many):
    """Tell whether a value is a bound of a diary with so many events."""
    if not is_tuple_of(value, 3, 3):
        return False
    first, last, most = value
    return (
        is_within(first, 0, many - 1)
        and is_within(last, 0, many - 1)
        and is_within(most, -Diary.MAX_DAYS, Diary.MAX_DAYS)
    )


def weekdays_fault(modulus, weekdays):
    """Return the part and the item of what is first wrong with weekdays, or None."""
    if not is_tuple_of(weekdays, 1, Diary.MAX_EVENTS):
        return "weekdays", None
    for item, weekday in enumerate(weekdays):
        if weekday is not None and not is_within(weekday, 0, modulus - 1):
            return "weekdays", item
    return None


def bounds_fault(many, bounds):
    """Return the part and the item of what is first wrong with bounds, or None."""
    if not is_tuple_of(bounds, 0, Diary.MAX_BOUNDS):
        return "bounds", None
    for item, bound in enumerate(bounds):
        if not is_bound(bound, many):
            return "bounds", item
    return None


def diary_fault(modulus, weekdays, bounds):
    """Return the part and the item of what is first wrong with a diary, or None."""
    if not is_within(modulus, 2, Diary.MAX_MODULUS):
        return "modulus", None
    fault = weekdays_fault(modulus, weekdays)
    if fault is not None:
        return fault
    return bounds_fault(len(weekdays), bounds)


class Event:
    """An event of a diary, which can be on any day unless a subclass says otherwise."""

    IS_DATED = False

    def __init__(self, number, modulus):
        self._number = number
        self._modulus = modulus

    @property
    def number(self):
        """The number of the event in its diary."""
        return self._number

    def latest(self, day):
        """Return the greatest day up to this one on which the event can be."""
        need_number(day)
        return day

    def fits(self, day):
        """Tell whether the event can be on this day."""
        return self.latest(day) == day

    def choices(self):
        """Yield the weekdays that the event can have, ascending."""
        for weekday in range(self._modulus):
            if self.fits(weekday):
                yield weekday


class DatedEvent(Event):
    """An event that is noted with its weekday."""

    IS_DATED = True

    def __init__(self, number, modulus, weekday):
        super().__init__(number, modulus)
        self._weekday = weekday

    @property
    def weekday(self):
        """The weekday of the event."""
        return self._weekday

    def latest(self, day):
        """Return the greatest day up to this one that has the event's weekday."""
        need_number(day)
        return day - (day - self._weekday) % self._modulus


class UndatedEvent(Event):
    """An event that is noted without a weekday."""

    IS_DATED = False


class Diary:
    """Events with or without weekdays, and bounds of the days between them."""

    MAX_MODULUS = 100
    MAX_EVENTS = 16
    MAX_BOUNDS = 60
    MAX_DAYS = 1000000000

    def __init__(self, modulus, weekdays, bounds):
        fault = diary_fault(modulus, weekdays, bounds)
        if fault is not None:
            part, item = fault
            raise InvalidDiary(part, item)
        self._modulus = modulus
        self._weekdays = weekdays
        self._bounds = bounds

    @staticmethod
    def is_diary(modulus, weekdays, bounds):
        """Tell whether these values make a diary."""
        return diary_fault(modulus, weekdays, bounds) is None

    @staticmethod
    def limits():
        """Return the greatest modulus and numbers of events, of bounds and of days."""
        return (Diary.MAX_MODULUS, Diary.MAX_EVENTS, Diary.MAX_BOUNDS, Diary.MAX_DAYS)

    @classmethod
    def of(cls, modulus, *weekdays):
        """Return the diary with these weekdays and without bounds."""
        return cls(modulus, weekdays, ())

    @property
    def modulus(self):
        """The number of days after which the weekdays come again."""
        return self._modulus

    @property
    def weekdays(self):
        """The weekdays of all events, None for an undated one."""
        return self._weekdays

    @property
    def bounds(self):
        """All bounds: (a, b, w) states that b is at most w days after a."""
        return self._bounds

    def __len__(self):
        return len(self._weekdays)

    def __eq__(self, other):
        return (
            isinstance(other, Diary)
            and self._modulus == other._modulus
            and self._weekdays == other._weekdays
            and self._bounds == other._bounds
        )

    def event(self, number):
        """Return the event with this number as an object."""
        self.need_event(number)
        weekday = self._weekdays[number]
        if weekday is None:
            return UndatedEvent(number, self._modulus)
        return DatedEvent(number, self._modulus, weekday)

    def events(self):
        """Yield all events as objects, in the order of their numbers."""
        for number in range(len(self._weekdays)):
            yield self.event(number)

    def need_event(self, event):
        """Raise InvalidEvent for a value that is not the number of an event."""
        if not is_within(event, 0, len(self._weekdays) - 1):
            raise InvalidEvent(event)

    def adding(self, *bounds):
        """Return the diary with these bounds after the others."""
        return Diary(self._modulus, self._weekdays, self._bounds + bounds)

    def noting(self, event, weekday):
        """Return the diary in which an event has this weekday, or None."""
        self.need_event(event)
        weekdays = list(self._weekdays)
        weekdays[event] = weekday
        return Diary(self._modulus, tuple(weekdays), self._bounds)

    def between(self, first, second, *, least=None, most=None):
        """Return the diary with bounds for the least and the most days from first to second."""
        self.need_event(first)
        self.need_event(second)
        for days in (least, most):
            if days is not None and not is_within(days, -Diary.MAX_DAYS, Diary.MAX_DAYS):
                raise InvalidNumber(days)
        bounds = []
        if least is not None:
            bounds.append((second, first, -least))
        if most is not None:
            bounds.append((first, second, most))
        return self.adding(*bounds)

    def mirrored(self):
        """Return the diary whose calendars have the negated days."""
        weekdays = [None if weekday is None else -weekday % self._modulus for weekday in self._weekdays]
        bounds = [(last, first, most) for first, last, most in self._bounds]
        return Diary(self._modulus, tuple(weekdays), tuple(bounds))

    def shifted(self, days):
        """Return the diary whose calendars have days that are greater by this number."""
        need_number(days)
        weekdays = [None if weekday is None else (weekday + days) % self._modulus for weekday in self._weekdays]
        return Diary(self._modulus, tuple(weekdays), self._bounds)


def is_days(diary, value):
    """Tell whether a value is a tuple with an integer for each event."""
    many = len(diary)
    return is_tuple_of(value, many, many) and all([is_number(day) for day in value])


def weekday_fault(diary, days):
    """Return the first event whose day does not have its weekday, or None."""
    # Calendars are asked for often: objects of all events would take most of the time.
    modulus = diary.modulus
    for event, weekday in enumerate(diary.weekdays):
        if weekday is not None and days[event] % modulus != weekday:
            return event
    return None


def bound_fault(diary, days):
    """Return the number of the first bound that does not hold, or None."""
    for item, (first, last, most) in enumerate(diary.bounds):
        if days[last] - days[first] > most:
            return item
    return None


def days_fault(diary, days):
    """Return the part and the item of what is first wrong with a calendar, or None."""
    if not is_days(diary, days):
        return "form", None
    event = weekday_fault(diary, days)
    if event is not None:
        return "weekday", event
    number = bound_fault(diary, days)
    if number is not None:
        return "bound", number
    return None


def check_calendar(diary, days):
    """Raise InvalidDays for a value that is not a calendar of the diary."""
    fault = days_fault(diary, days)
    if fault is not None:
        part, item = fault
        raise InvalidDays(part, item)


def is_calendar(diary, days):
    """Tell whether a value is a calendar of the diary."""
    return days_fault(diary, days) is None
