"""Reach: how far after one dated event the others can be."""


def lower_gaps(diary, offsets, found):
    """Follow each bound once from the events found, and tell whether a gap has become less.

    The offset of a dated event is the remainder that its gap must have; an undated
    one has None.
    """
    modulus = diary.modulus
    is_lowered = False
    for number, (first, last, most) in enumerate(diary.bounds):
        if first in found:
            before, numbers = found[first]
            gap = before + most
            if offsets[last] is not None:
                gap -= (gap - offsets[last]) % modulus
            if last not in found or gap < found[last][0]:
                found[last] = (gap, numbers + (number,))
                is_lowered = True
    return is_lowered


def greatest_gaps(diary, source, weekday):
    """Return the greatest gaps from an event to all events to which bounds lead from it.

    The diary has a calendar. The source counts as dated, with this weekday instead
    of what the diary notes: return None if it has this weekday in no calendar.
    Otherwise return a dict from events to pairs (gap, numbers): the bounds with these
    numbers lead to the event and enforce the gap.
    """
    offsets = [None if noted is None else noted - weekday for noted in diary.weekdays]
    offsets[source] = 0
    found = {source: (0, ())}
    while lower_gaps(diary, offsets, found):
        # Only a ring through the source can be negative, and it would never end.
        if found[source][0] < 0:
            return None
    return found


def gaps_at(diary, first, second, weekday):
    """Return the least and the greatest gap if second has this weekday.

    The diary has a calendar. Return None if second has this weekday in no calendar;
    an end that does not exist is None.
    """
    onward = greatest_gaps(diary, second, weekday)
    if onward is None:
        return None
    back = greatest_gaps(diary.mirrored(), second, -weekday)
    least = -onward[first][0] if first in onward else None
    most = back[first][0] if first in back else None
    return least, most


def weekdays_in_calendars(diary, event):
    """Return the weekdays of an event in the calendars of a diary that has one, ascending."""
    place = diary.event(event)
    return [weekday for weekday in place.choices() if greatest_gaps(diary, event, weekday) is not None]
