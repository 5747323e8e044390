"""Windows: the calendars whose days are all in a short range, in ascending order."""

from weekdaylegs.diaries import Diary, check_calendar, is_within
from weekdaylegs.errors import InvalidDays, InvalidRank, InvalidWindow, LimitExceeded

MAX_WINDOW = 1000
MAX_LISTED = 1000


def need_window(low, high):
    """Raise InvalidWindow for values that are not a window."""
    if not is_within(low, -Diary.MAX_DAYS, Diary.MAX_DAYS):
        raise InvalidWindow("low")
    if not is_within(high, low, low + MAX_WINDOW):
        raise InvalidWindow("high")


def raise_once(diary, days):
    """Raise days to their weekdays, and then where a bound demands it; tell whether one did."""
    modulus = diary.modulus
    is_raised = False
    for event, weekday in enumerate(diary.weekdays):
        if weekday is not None:
            days[event] += (weekday - days[event]) % modulus
    for first, last, most in diary.bounds:
        if days[first] < days[last] - most:
            days[first] = days[last] - most
            is_raised = True
    return is_raised


def raised_days(diary, floors, ceilings):
    """Return the least calendar with days from these floors to these ceilings, or None.

    Days are raised only as far as a weekday or a bound demands. So every day is the
    least one that is possible, and the calendar is also the first one in ascending order.
    """
    days = list(floors)
    is_raised = True
    while is_raised:
        is_raised = raise_once(diary, days)
        if any([day > ceiling for day, ceiling in zip(days, ceilings)]):
            return None
    return tuple(days)


def next_calendar(diary, low, high, days):
    """Return the calendar in the window that comes next after this one, or None."""
    many = len(days)
    # What comes next has as many days as possible in common with this one.
    for spot in reversed(range(many)):
        floors = days[:spot] + (days[spot] + 1,) + (low,) * (many - spot - 1)
        ceilings = days[:spot] + (high,) * (many - spot)
        found = raised_days(diary, floors, ceilings)
        if found is not None:
            return found
    return None


def listed_calendars(diary, low, high):
    """Return the calendars in the window, ascending, and raise an error if there are too many."""
    need_window(low, high)
    many = len(diary)
    found = []
    days = raised_days(diary, (low,) * many, (high,) * many)
    while days is not None:
        if len(found) == MAX_LISTED:
            raise LimitExceeded(MAX_LISTED)
        found.append(days)
        days = next_calendar(diary, low, high, days)
    return found


def calendars(diary, low, high, *, start=0):
    """Yield the calendars in the window, ascending, from the one with the number start on."""
    found = listed_calendars(diary, low, high)
    if not is_within(start, 0, len(found)):
        raise InvalidRank(start)
    for days in found[start:]:
        yield days


def count_calendars(diary, low, high):
    """Return the number of calendars in the window."""
    return len(listed_calendars(diary, low, high))


def calendar_by_rank(diary, low, high, rank):
    """Return the calendar in the window that has this number."""
    found = listed_calendars(diary, low, high)
    if not is_within(rank, 0, len(found) - 1):
        raise InvalidRank(rank)
    return found[rank]


def rank_of(diary, low, high, days):
    """Return the number of this calendar in the window."""
    found = listed_calendars(diary, low, high)
    check_calendar(diary, days)
    for event, day in enumerate(days):
        if not is_within(day, low, high):
            raise InvalidDays("window", event)
    return found.index(days)
