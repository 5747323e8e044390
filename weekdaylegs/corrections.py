"""Corrections: which notes or bounds can be wrong if a diary has no calendar."""

from weekdaylegs.decisions import decide, has_calendar
from weekdaylegs.diaries import Diary
from weekdaylegs.reach import weekdays_in_calendars


def corrections(diary):
    """Return all pairs (event, weekday or None) after the noting of which there is a calendar."""
    kind, rows = decide(diary)
    if kind != "ring":
        return ()
    found = []
    # An event that does not begin a leg of this ring would leave the ring as it is.
    for event in sorted({diary.bounds[row[0]][0] for row in rows}):
        found.extend(corrections_of(diary, event))
    return tuple(found)


def corrections_of(diary, event):
    """Return the corrections of this dated event of a diary that has no calendar."""
    freed = diary.noting(event, None)
    if not has_calendar(freed):
        return []
    return [(event, None)] + [(event, weekday) for weekday in weekdays_in_calendars(freed, event)]


def removals(diary):
    """Return the numbers of all bounds without which there is a calendar, ascending."""
    kind, reason = decide(diary)
    if kind == "calendar":
        return ()
    rows = reason if kind == "ring" else (reason,)
    # A bound that is not part of this reason would leave it as it is.
    numbers = sorted({number for row in rows for number in row})
    return tuple([number for number in numbers if has_calendar(without(diary, number))])


def without(diary, number):
    """Return the diary without the bound that has this number."""
    bounds = diary.bounds[:number] + diary.bounds[number + 1:]
    return Diary(diary.modulus, diary.weekdays, bounds)
