"""Windows: the calendars whose days are all in a short range, in ascending order."""

from weekdaylegs.diaries import Diary, check_calendar, is_within
from weekdaylegs.errors import InvalidDays, InvalidRank, InvalidWindow, LimitExceeded
from weekdaylegs.spans import window_spans

MAX_WINDOW = 1000
MAX_LISTED = 1000


def need_window(low, high):
    """Raise InvalidWindow for values that are not a window."""
    if not is_within(low, -Diary.MAX_DAYS, Diary.MAX_DAYS):
        raise InvalidWindow("low")
    if not is_within(high, low, low + MAX_WINDOW):
        raise InvalidWindow("high")


def window_rows(diary, low, high):
    """Return a row of days for each calendar in the window, and raise an error if there are too many.

    A row begins with the low day and has the days of only some events. With the rows
    return, for each event, the place in a row from which its gap is fixed, and this gap.
    """
    need_window(low, high)
    spans = window_spans(diary, low, high)
    if spans is None:
        return [], []
    free = free_events(diary, spans)
    rows = [(low,)]
    for spot in range(1, len(free)):
        step = 1 if diary.weekdays[free[spot]] is None else diary.modulus
        rows = widened(rows, needed_gaps(spans, free[:spot], free[spot]), step)
    places = [fixed_place(spans, free, event) for event in range(len(diary))]
    return rows, [(place, spans[free[place]][event]) for event, place in enumerate(places)]


def free_events(diary, spans):
    """Return the first day of the window, and then the events without a fixed gap to anything ahead of them.

    Dated events come ahead of undated ones, as window_spans demands.
    """
    free = [len(diary)]
    for is_late in (False, True):
        for event, weekday in enumerate(diary.weekdays):
            if (weekday is None) == is_late and fixed_place(spans, free, event) is None:
                free.append(event)
    return free


def fixed_place(spans, free, event):
    """Return the first place among the free events from which the gap to an event is fixed, or None."""
    for place, other in enumerate(free):
        if spans[other][event] == -spans[event][other]:
            return place
    return None


def needed_gaps(spans, earlier, event):
    """Return the pairs (place, gap) of the least and of the greatest gaps from earlier events to this one.

    Most events have little to do with each other: leave out the gaps that follow from
    the first day of the window, which is the first one of the earlier events.
    """
    start = earlier[0]
    least = [(0, -spans[event][start])]
    most = [(0, spans[start][event])]
    for place, other in enumerate(earlier):
        if spans[event][other] < spans[event][start] + spans[start][other]:
            least.append((place, -spans[event][other]))
        if spans[other][event] < spans[other][start] + spans[start][event]:
            most.append((place, spans[other][event]))
    return least, most


def widened(rows, gaps, step):
    """Return all rows with each day of one more event that keeps its least and greatest gaps."""
    least, most = gaps
    found = []
    for row in rows:
        first = max([row[place] + gap for place, gap in least])
        final = min([row[place] + gap for place, gap in most])
        days = range(first, final + 1, step)
        # Each row begins at least one calendar, so it is not needed to know how they go on.
        if len(found) + len(days) > MAX_LISTED:
            raise LimitExceeded(MAX_LISTED)
        found.extend([row + (day,) for day in days])
    return found


def whole_calendars(rows, places):
    """Return the calendars for which these rows stand, ascending."""
    return sorted([tuple([row[place] + gap for place, gap in places]) for row in rows])


def calendars(diary, low, high, *, start=0):
    """Yield the calendars in the window, ascending, from the one with the number start on."""
    rows, places = window_rows(diary, low, high)
    if not is_within(start, 0, len(rows)):
        raise InvalidRank(start)
    for days in whole_calendars(rows, places)[start:]:
        yield days


def count_calendars(diary, low, high):
    """Return the number of calendars in the window."""
    rows, _ = window_rows(diary, low, high)
    return len(rows)


def calendar_by_rank(diary, low, high, rank):
    """Return the calendar in the window that has this number."""
    rows, places = window_rows(diary, low, high)
    if not is_within(rank, 0, len(rows) - 1):
        raise InvalidRank(rank)
    return whole_calendars(rows, places)[rank]


def rank_of(diary, low, high, days):
    """Return the number of this calendar in the window."""
    rows, places = window_rows(diary, low, high)
    check_calendar(diary, days)
    for event, day in enumerate(days):
        if not is_within(day, low, high):
            raise InvalidDays("window", event)
    return whole_calendars(rows, places).index(days)
