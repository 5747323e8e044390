"""Gaps: how many days an event can be after a dated one, with certificates."""

from weekdaylegs.decisions import legs_of, need_calendar
from weekdaylegs.diaries import is_calendar, is_number, is_tuple_of, is_within, need_number
from weekdaylegs.errors import InvalidAnswer, InvalidEvent, InvalidNumber, InvalidWalk
from weekdaylegs.legs import Walk, is_dated
from weekdaylegs.reach import gaps_at, greatest_gaps

MOST_YIELDED = 1000


def need_dated(diary, event):
    """Raise InvalidEvent for a value that is not the number of a dated event."""
    diary.need_event(event)
    if not is_dated(diary, event):
        raise InvalidEvent(event)


def need_events(diary, first, second):
    """Raise InvalidEvent unless first is a dated event and second is an event."""
    need_dated(diary, first)
    diary.need_event(second)


def greatest_gap(diary, first, second):
    """Return the greatest gap with a calendar and with what enforces it, or the events without a way on."""
    need_events(diary, first, second)
    return most_answer(diary, first, second, need_calendar(diary))


def least_gap(diary, first, second):
    """Return the least gap with a calendar and with what enforces it, or the events without a way back."""
    need_events(diary, first, second)
    days = need_calendar(diary)
    # The greatest gap of the mirrored diary has the same legs, all of them backwards.
    answer = most_answer(diary.mirrored(), first, second, negated(days))
    if answer[0] == "open":
        return answer
    _, gap, days, legs, numbers = answer
    legs = tuple([leg[::-1] for leg in legs[::-1]])
    return "least", -gap, negated(days), legs, numbers[::-1]


def negated(days):
    """Return the negative days."""
    return tuple([-day for day in days])


def most_answer(diary, first, second, days):
    """Return the answer of greatest_gap for a diary with this calendar."""
    found = greatest_gaps(diary, first, diary.weekdays[first])
    if second not in found:
        return "open", tuple(sorted(found))
    gap, numbers = found[second]
    legs, rest = split_legs(diary, numbers)
    return "most", gap, latest_days(diary, first, days, found), legs, rest


def split_legs(diary, numbers):
    """Return the legs that a walk from a dated event begins with, and the numbers behind them."""
    legs = []
    row = ()
    for number in numbers:
        row = row + (number,)
        if is_dated(diary, diary.bounds[number][1]):
            legs.append(row)
            row = ()
    return tuple(legs), row


def latest_days(diary, first, days, found):
    """Return a calendar in which the gaps from first are the greatest ones, which were found."""
    start = diary.weekdays[first]
    # Bounds lead from the other events only to those that were found: late days keep these bounds.
    late = max([start + found[event][0] - days[event] for event in found])
    late += -late % diary.modulus
    return tuple([start + found[event][0] if event in found else days[event] + late for event in range(len(diary))])


def check_greatest(diary, first, second, answer):
    """Return the gap of a correct answer of greatest_gap, None for an open one, else raise InvalidAnswer."""
    gap = answered_gap(diary, first, second, answer, "most")
    if gap is not None and most_total(diary, first, second, answer[3], answer[4]) != gap:
        raise InvalidAnswer("legs")
    return gap


def check_least(diary, first, second, answer):
    """Return the gap of a correct answer of least_gap, None for an open one, else raise InvalidAnswer."""
    gap = answered_gap(diary, first, second, answer, "least")
    if gap is not None and back_total(diary, first, second, answer[3], answer[4]) != -gap:
        raise InvalidAnswer("legs")
    return gap


def answered_gap(diary, first, second, answer, word):
    """Return the gap of an answer that begins with this word, None for an open one, without a look at the legs."""
    need_events(diary, first, second)
    need_calendar(diary)
    if not is_answer_form(answer, word):
        raise InvalidAnswer("form")
    if answer[0] == "open":
        onward = diary if word == "most" else diary.mirrored()
        if not is_open(onward, first, second, answer[1]):
            raise InvalidAnswer("open")
        return None
    _, gap, days, _, _ = answer
    if not is_calendar(diary, days):
        raise InvalidAnswer("calendar")
    if not is_number(gap) or gap != days[second] - days[first]:
        raise InvalidAnswer("number")
    return gap


def is_answer_form(value, word):
    """Tell whether a value is a pair that begins with "open", or five items that begin with this word."""
    if is_tuple_of(value, 2, 2):
        return isinstance(value[0], str) and value[0] == "open"
    return is_tuple_of(value, 5, 5) and isinstance(value[0], str) and value[0] == word


def is_open(diary, first, second, events):
    """Tell whether a value is a tuple of ascending events, with first, from which no bound leads on or to second."""
    many = len(diary)
    if not is_tuple_of(events, 1, many) or not all([is_within(event, 0, many - 1) for event in events]):
        return False
    if events != tuple(sorted(set(events))) or first not in events or second in events:
        return False
    return not any([bound[0] in events and bound[1] not in events for bound in diary.bounds])


def most_total(diary, first, second, rows, numbers):
    """Return the sum of legs from first and of a walk from there to second, or None if they are none."""
    if is_dated(diary, second):
        return rows_total(diary, rows, first, second) if is_tuple_of(numbers, 0, 0) else None
    walk = walk_of(diary, numbers)
    if walk is None or walk.stops[-1] != second or has_dated(diary, walk.stops[1:]):
        return None
    total = rows_total(diary, rows, first, walk.stops[0])
    return None if total is None else total + walk.total


def back_total(diary, first, second, rows, numbers):
    """Return the sum of a walk from second and of legs from there to first, or None if they are none."""
    if is_dated(diary, second):
        return rows_total(diary, rows, second, first) if is_tuple_of(numbers, 0, 0) else None
    walk = walk_of(diary, numbers)
    if walk is None or walk.stops[0] != second or has_dated(diary, walk.stops[:-1]):
        return None
    total = rows_total(diary, rows, walk.stops[-1], first)
    return None if total is None else total + walk.total


def has_dated(diary, stops):
    """Tell whether one of these events is dated."""
    return any([is_dated(diary, stop) for stop in stops])


def walk_of(diary, numbers):
    """Return the walk of these bounds, or None if the value is not the tuple of a walk."""
    if not isinstance(numbers, tuple):
        return None
    try:
        return Walk(diary, *numbers)
    except InvalidWalk:
        return None


def rows_total(diary, rows, place, goal):
    """Return the sum of the lengths of legs in a row from a place to a goal, or None if they are none."""
    legs = legs_of(diary, rows)
    if legs is None:
        return None
    for leg in legs:
        if leg.stops[0] != place:
            return None
        place = leg.stops[-1]
    return sum([leg.most() for leg in legs]) if place == goal else None


def weekday_range(diary, first, second, weekday):
    """Return the least and the greatest gap if second has this weekday, or None if it cannot have it."""
    need_events(diary, first, second)
    if not is_within(weekday, 0, diary.modulus - 1):
        raise InvalidNumber(weekday)
    need_calendar(diary)
    if not diary.event(second).fits(weekday):
        return None
    return gaps_at(diary, first, second, weekday)


def is_possible_gap(diary, first, second, days):
    """Tell whether second is so many days after first in some calendar."""
    need_events(diary, first, second)
    need_number(days)
    weekday = (diary.weekdays[first] + days) % diary.modulus
    ends = weekday_range(diary, first, second, weekday)
    if ends is None:
        return False
    least, most = ends
    return (least is None or least <= days) and (most is None or days <= most)


def possible_gaps(diary, first, second, *, start=0, many=10):
    """Yield the first possible gaps from start on, ascending, but not more than many."""
    need_events(diary, first, second)
    need_number(start)
    if not is_within(many, 0, MOST_YIELDED):
        raise InvalidNumber(many)
    need_calendar(diary)
    place = diary.event(second)
    found = []
    for weekday in place.choices():
        found.extend(gaps_from(diary, first, second, weekday, start, many))
    for gap in sorted(found)[:many]:
        yield gap


def gaps_from(diary, first, second, weekday, start, many):
    """Return the first possible gaps from start on, not more than many, if second has this weekday."""
    ends = gaps_at(diary, first, second, weekday)
    if ends is None:
        return []
    least, most = ends
    gap = start + (weekday - diary.weekdays[first] - start) % diary.modulus
    if least is not None:
        gap = max(gap, least)
    stop = gap + many * diary.modulus
    if most is not None:
        stop = min(stop, most + 1)
    return list(range(gap, stop, diary.modulus))
