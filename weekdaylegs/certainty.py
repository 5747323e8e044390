"""Certainty: what is the same in all calendars of a diary."""

from weekdaylegs.decisions import need_calendar
from weekdaylegs.gaps import need_dated
from weekdaylegs.reach import greatest_gaps, weekdays_in_calendars


def sure_gaps(diary, first):
    """Return the pairs (event, gap) of all events with only one possible gap from first, ascending."""
    need_dated(diary, first)
    need_calendar(diary)
    weekday = diary.weekdays[first]
    onward = greatest_gaps(diary, first, weekday)
    back = greatest_gaps(diary.mirrored(), first, -weekday)
    both = [event for event in sorted(onward) if event in back]
    return tuple([(event, onward[event][0]) for event in both if onward[event][0] == -back[event][0]])


def possible_weekdays(diary, event):
    """Return the weekdays that an event has in calendars, ascending."""
    diary.need_event(event)
    need_calendar(diary)
    return tuple(weekdays_in_calendars(diary, event))
