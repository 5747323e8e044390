"""Joining: one diary of the events of two, some of which can be the same."""

from weekdaylegs.diaries import Diary, is_tuple_of, is_within
from weekdaylegs.errors import Mismatch


def joined(one, other, *pairs):
    """Return the diary of the events of both, where those in a pair are the same event."""
    if one.modulus != other.modulus:
        raise Mismatch("modulus")
    need_pairs(one, other, pairs)
    need_agreement(one, other, pairs)
    numbers = new_numbers(one, other, pairs)
    weekdays = list(one.weekdays) + [None] * (len(other) - len(pairs))
    for number, weekday in zip(numbers, other.weekdays):
        if weekday is not None:
            weekdays[number] = weekday
    bounds = [(numbers[first], numbers[last], most) for first, last, most in other.bounds]
    return Diary(one.modulus, tuple(weekdays), one.bounds + tuple(bounds))


def need_pairs(one, other, pairs):
    """Raise Mismatch for the first value that is no pair of events, or in which an event comes again."""
    for spot, pair in enumerate(pairs):
        # All earlier values are pairs of different events, so there are only a few.
        if not is_pair(one, other, pair) or is_taken(pair, pairs[:spot]):
            raise Mismatch("pair", spot)


def is_pair(one, other, value):
    """Tell whether a value is a pair of an event of the first and one of the second diary."""
    if not is_tuple_of(value, 2, 2):
        return False
    return is_within(value[0], 0, len(one) - 1) and is_within(value[1], 0, len(other) - 1)


def is_taken(pair, earlier):
    """Tell whether an event of a pair is on the same side of an earlier one."""
    return any([pair[0] == before[0] or pair[1] == before[1] for before in earlier])


def need_agreement(one, other, pairs):
    """Raise Mismatch for the first pair of events that are noted with different weekdays."""
    for spot, (first, second) in enumerate(pairs):
        noted = (one.weekdays[first], other.weekdays[second])
        if None not in noted and noted[0] != noted[1]:
            raise Mismatch("weekday", spot)


def new_numbers(one, other, pairs):
    """Return the numbers that the events of the second diary have in the joined one."""
    shared = {second: first for first, second in pairs}
    numbers = []
    fresh = len(one)
    for event in range(len(other)):
        if event in shared:
            numbers.append(shared[event])
        else:
            numbers.append(fresh)
            fresh += 1
    return numbers
