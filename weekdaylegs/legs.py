"""Walks over the bounds of a diary, among them legs and loops."""

from weekdaylegs.diaries import is_within
from weekdaylegs.errors import InvalidWalk


def is_dated(diary, number):
    """Tell whether the event with this number is dated."""
    return diary.weekdays[number] is not None


def leg_length(first, last, total):
    """Return the greatest gap up to total that fits the weekdays of two dated events."""
    return last.latest(first.weekday + total) - first.weekday


def walk_fault(diary, numbers):
    """Return the first position at which numbers are not a walk, or None."""
    place = None
    for spot, number in enumerate(numbers):
        if not is_within(number, 0, len(diary.bounds) - 1):
            return spot
        first, last, _ = diary.bounds[number]
        if place is not None and first != place:
            return spot
        place = last
    return None


def leg_fault(diary, stops):
    """Return the first position at which a walk with these stops is not a leg, or None."""
    final = len(stops) - 2
    for spot in range(len(stops) - 1):
        if is_dated(diary, stops[spot]) != (spot == 0):
            return spot
        if is_dated(diary, stops[spot + 1]) != (spot == final):
            return spot
    return None


def loop_fault(diary, stops):
    """Return the first position at which a walk with these stops is not a loop, or None."""
    final = len(stops) - 2
    for spot in range(len(stops) - 1):
        if is_dated(diary, stops[spot]):
            return spot
    if stops[-1] != stops[0]:
        return final
    return None


def need_no_fault(spot):
    """Raise InvalidWalk if there is a position at which a walk is wrong."""
    if spot is not None:
        raise InvalidWalk(spot)


class Walk:
    """Bounds of a diary, each of which begins where the one before ends."""

    def __init__(self, diary, *numbers):
        if not numbers:
            raise InvalidWalk(None)
        need_no_fault(walk_fault(diary, numbers))
        self._diary = diary
        self._numbers = numbers

    @property
    def diary(self):
        """The diary of the walk."""
        return self._diary

    @property
    def numbers(self):
        """The numbers of the bounds."""
        return self._numbers

    @property
    def stops(self):
        """The events from the first to the last one."""
        bounds = [self._diary.bounds[number] for number in self._numbers]
        return (bounds[0][0],) + tuple([bound[1] for bound in bounds])

    @property
    def total(self):
        """The sum of the days of the bounds."""
        return sum([self._diary.bounds[number][2] for number in self._numbers])

    def __len__(self):
        return len(self._numbers)

    def __eq__(self, other):
        return isinstance(other, Walk) and self._numbers == other._numbers and self._diary == other._diary

    def most(self):
        """Return what the gap from the first to the last stop is at most."""
        return self.total


class Leg(Walk):
    """A walk from a dated event over undated ones to a dated event."""

    def __init__(self, diary, *numbers):
        super().__init__(diary, *numbers)
        need_no_fault(leg_fault(diary, self.stops))

    def most(self):
        """Return the length: the sum, rounded down to what fits both weekdays."""
        stops = self.stops
        return leg_length(self._diary.event(stops[0]), self._diary.event(stops[-1]), self.total)


class Loop(Walk):
    """A walk over undated events that ends where it begins."""

    def __init__(self, diary, *numbers):
        super().__init__(diary, *numbers)
        need_no_fault(loop_fault(diary, self.stops))
