"""Decisions: a calendar of a diary, or a short reason why there is none."""

from weekdaylegs.diaries import is_calendar, is_tuple_of
from weekdaylegs.errors import InvalidAnswer, InvalidWalk, NoCalendar
from weekdaylegs.legs import Leg, Loop
from weekdaylegs.routes import bound_routes, join_routes, leg_routes


def has_calendar(diary):
    """Tell whether the diary has a calendar."""
    return decide(diary)[0] == "calendar"


def decide(diary):
    """Return a calendar, or else a negative loop or ring, behind the word for its kind."""
    dated = [event.number for event in diary.events() if event.IS_DATED]
    undated = [event.number for event in diary.events() if not event.IS_DATED]
    walks = bound_routes(diary)
    loop = join_routes(walks, undated, len(diary))
    if loop is not None:
        return "loop", loop
    ring = join_routes(leg_routes(diary, walks), dated, len(diary))
    if ring is not None:
        return "ring", ring
    return "calendar", lowered_days(diary)


def need_calendar(diary):
    """Return a calendar of the diary, and raise NoCalendar if there is none."""
    kind, reason = decide(diary)
    if kind != "calendar":
        raise NoCalendar((kind, reason))
    return reason


def lowered_days(diary):
    """Return a calendar of a diary that has one.

    Days are lowered only as far as a bound and a weekday demand, so they never
    fall below those of a calendar that begins low enough: this comes to an end.
    """
    places = list(diary.events())
    days = [place.latest(0) for place in places]
    is_lowered = True
    while is_lowered:
        is_lowered = False
        for first, last, most in diary.bounds:
            if days[last] > days[first] + most:
                days[last] = places[last].latest(days[first] + most)
                is_lowered = True
    return tuple(days)


def check_decision(diary, answer):
    """Return the first item of a correct answer, and raise InvalidAnswer for another value."""
    if not is_answer(answer):
        raise InvalidAnswer("form")
    kind, reason = answer
    if not is_correct(diary, kind, reason):
        raise InvalidAnswer(kind)
    return kind


def is_answer(value):
    """Tell whether a value is a pair that begins with the word for a kind of answer."""
    if not is_tuple_of(value, 2, 2) or not isinstance(value[0], str):
        return False
    return value[0] in ("calendar", "loop", "ring")


def is_correct(diary, kind, reason):
    """Tell whether a value is what an answer of this kind says it is."""
    if kind == "calendar":
        return is_calendar(diary, reason)
    if kind == "loop":
        return is_negative_loop(diary, reason)
    return is_negative_ring(diary, reason)


def is_negative_loop(diary, numbers):
    """Tell whether a value is the tuple of the numbers of a loop with a negative sum."""
    if not isinstance(numbers, tuple):
        return False
    try:
        loop = Loop(diary, *numbers)
    except InvalidWalk:
        return False
    return loop.most() < 0


def is_negative_ring(diary, rows):
    """Tell whether a value is a ring with a negative sum of lengths."""
    legs = legs_of(diary, rows)
    if legs is None or not is_round(legs):
        return False
    return sum([leg.most() for leg in legs]) < 0


def legs_of(diary, rows):
    """Return the legs whose numbers are in this tuple, or None if it is no tuple of legs."""
    if not isinstance(rows, tuple):
        return None
    legs = []
    for row in rows:
        if not isinstance(row, tuple):
            return None
        try:
            leg = Leg(diary, *row)
        except InvalidWalk:
            return None
        legs.append(leg)
    return legs


def is_round(legs):
    """Tell whether legs are in a row that ends where it begins."""
    # Before the first leg, the index -1 finds the last one.
    return all([legs[spot - 1].stops[-1] == legs[spot].stops[0] for spot in range(len(legs))])
