"""What the tests of gaps need: answers checked by themselves, and the errors that all functions share."""

from tests.helpers import LONG, ProgramTestCase, no_integers, tower
from tests.samples import has_negative_loop
from weekdaylegs.decisions import check_decision
from weekdaylegs.diaries import Diary, is_calendar
from weekdaylegs.errors import InvalidEvent, NoCalendar
from weekdaylegs.legs import Leg, Walk

DIARY = Diary(7, (1, None, 0), ((0, 1, 3), (1, 2, 4), (2, 0, -6)))
RING = Diary(7, (1, None, 0), ((0, 1, 3), (1, 2, 4), (2, 0, -7)))
LOOP = Diary(7, (1, None, 0), ((0, 1, 3), (1, 2, 4), (2, 0, -7), (1, 1, -1)))


def no_events(diary):
    """Return values that are not numbers of events of the diary."""
    return [-1, len(diary), LONG, -LONG, tower(1)] + no_integers()


class GapTestCase(ProgramTestCase):
    def assert_reason(self, diary, call, /, *args, **named):
        """Check that a call raises NoCalendar with an answer that decide may return."""
        error = self.error(NoCalendar, call, *args, **named)
        self.assertEqual(list(vars(error)), ["reason"])
        self.assertIs(type(error.reason), tuple)
        kind = "loop" if has_negative_loop(diary) else "ring"
        self.assertEqual(check_decision(diary, error.reason), kind)

    def assert_first(self, call, **named):
        """Check that a call raises InvalidEvent for all that is no dated event, as its parameter first."""
        for diary in (DIARY, RING, LOOP):
            for value in [1] + no_events(diary):
                self.assert_value(InvalidEvent, call, value, diary=diary, first=value, **named)

    def assert_second(self, call, **named):
        """Check that a call raises InvalidEvent for all that is no event, as its parameter second."""
        for diary in (DIARY, RING, LOOP):
            for value in no_events(diary):
                self.assert_value(InvalidEvent, call, value, diary=diary, first=0, second=value, **named)
                self.assert_value(InvalidEvent, call, value, diary, 2, value, **named)

    def assert_most(self, diary, first, second, answer):
        """Check an answer of greatest_gap by itself, and return the gap, or None for an open one."""
        self.assertIs(type(answer), tuple)
        if answer[0] == "open":
            self.assert_open(first, second, answer, diary.bounds)
            return None
        word, gap, days, rows, numbers = answer
        self.assertEqual(word, "most")
        self.assert_calendar(diary, first, second, gap, days)
        place, total = self.end_of_rows(diary, first, rows)
        if diary.weekdays[second] is None:
            walk = Walk(diary, *numbers)
            self.assertEqual((walk.stops[0], walk.stops[-1]), (place, second))
            self.assertEqual([diary.weekdays[stop] for stop in walk.stops[1:]], [None] * len(walk))
            total += walk.total
        else:
            self.assertEqual((numbers, place), ((), second))
        self.assertEqual(total, gap)
        return gap

    def assert_least(self, diary, first, second, answer):
        """Check an answer of least_gap by itself, and return the gap, or None for an open one."""
        self.assertIs(type(answer), tuple)
        if answer[0] == "open":
            self.assert_open(first, second, answer, [(b, a, w) for a, b, w in diary.bounds])
            return None
        word, gap, days, rows, numbers = answer
        self.assertEqual(word, "least")
        self.assert_calendar(diary, first, second, gap, days)
        start, total = second, 0
        if diary.weekdays[second] is None:
            walk = Walk(diary, *numbers)
            self.assertEqual(walk.stops[0], second)
            self.assertEqual([diary.weekdays[stop] for stop in walk.stops[:-1]], [None] * len(walk))
            start, total = walk.stops[-1], walk.total
            self.assertIsNotNone(diary.weekdays[start])
        else:
            self.assertEqual(numbers, ())
        place, more = self.end_of_rows(diary, start, rows)
        self.assertEqual((place, -total - more), (first, gap))
        return gap

    def assert_open(self, first, second, answer, bounds):
        word, events = answer
        self.assertIs(type(events), tuple)
        self.assertEqual(events, tuple(sorted(set(events))))
        self.assertIn(first, events)
        self.assertNotIn(second, events)
        self.assertEqual([bound for bound in bounds if bound[0] in events and bound[1] not in events], [])

    def assert_calendar(self, diary, first, second, gap, days):
        self.assertIs(type(gap), int)
        self.assertIs(type(days), tuple)
        self.assertTrue(is_calendar(diary, days))
        self.assertEqual(days[second] - days[first], gap)

    def end_of_rows(self, diary, place, rows):
        """Return where legs in a row that begin at a place end, and the sum of their lengths."""
        self.assertIs(type(rows), tuple)
        total = 0
        for row in rows:
            self.assertIs(type(row), tuple)
            leg = Leg(diary, *row)
            self.assertEqual(leg.stops[0], place)
            place = leg.stops[-1]
            total += leg.most()
        return place, total
