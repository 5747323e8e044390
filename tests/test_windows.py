"""Points 12 and 35: the calendars in a window."""

import itertools
import random
import types
import unittest

from tests.helpers import LONG, Odd, ProgramTestCase, calls_of, no_integers, other_values, odd_tuples, tower
from tests.samples import all_days, diary_of_days, large_diaries, random_diary, small_diary
from weekdaylegs import windows
from weekdaylegs.diaries import Diary, check_calendar, is_calendar
from weekdaylegs.errors import InvalidDays, InvalidRank, InvalidWindow, LimitExceeded
from weekdaylegs.windows import calendar_by_rank, calendars, count_calendars, rank_of

DIARY = Diary(7, (1, None, 0), ((0, 1, 3), (1, 2, 4), (2, 0, -6)))
RING = Diary(7, (1, None, 0), ((0, 1, 3), (1, 2, 4), (2, 0, -7)))
DAYS = 10 ** 9


def listed(*args, **named):
    return list(calendars(*args, **named))


def first_one(*args, **named):
    return next(calendars(*args, **named))


class WindowTestCase(ProgramTestCase):
    def assert_window(self, diary, low, high, wanted):
        """Check all functions for a window with these calendars."""
        self.assertEqual(listed(diary, low, high), wanted)
        self.assertEqual(count_calendars(diary, low, high), len(wanted))
        for rank in sorted({0, len(wanted) // 3, len(wanted) - 1}):
            if 0 <= rank < len(wanted):
                self.assertEqual(calendar_by_rank(diary, low, high, rank), wanted[rank])
                self.assertEqual(rank_of(diary, low, high, wanted[rank]), rank)

    def assert_refused(self, diary, low, high):
        """Check that all functions refuse a window with too many calendars."""
        fields = {"limit": 1000}
        for call, *more in ((count_calendars,), (listed,), (first_one,), (calendar_by_rank, 0), (rank_of, (0,))):
            self.assert_fields(fields, LimitExceeded, call, diary, low, high, *more)


class ListTest(WindowTestCase):
    def test_example_of_the_document(self):
        found = (
            count_calendars(DIARY, 0, 13), listed(DIARY, 0, 13)[0], calendar_by_rank(DIARY, 0, 13, 1),
            rank_of(DIARY, 0, 13, (1, 4, 7)),
        )
        self.assertEqual(found, (2, (1, 3, 7), (1, 4, 7), 1))

    def test_constants(self):
        self.assertEqual((windows.MAX_WINDOW, windows.MAX_LISTED), (1000, 1000))

    def test_by_name(self):
        self.assertEqual(listed(high=13, start=1, low=0, diary=DIARY), [(1, 4, 7)])
        self.assertEqual(count_calendars(high=13, low=0, diary=DIARY), 2)
        self.assertEqual(calendar_by_rank(rank=0, high=13, low=0, diary=DIARY), (1, 3, 7))
        self.assertEqual(rank_of(days=(1, 3, 7), high=13, low=0, diary=DIARY), 0)
        with self.assertRaises(TypeError):
            listed(DIARY, 0, 13, 0)

    def test_yields_one_by_one(self):
        found = calendars(DIARY, 0, 20)
        self.assertIsInstance(found, types.GeneratorType)
        self.assertEqual(next(found), (1, 3, 7))
        self.assertEqual(list(found), [(1, 4, 7), (8, 10, 14), (8, 11, 14)])

    def test_edges_of_a_window(self):
        self.assert_window(DIARY, 1, 7, [(1, 3, 7), (1, 4, 7)])
        self.assert_window(DIARY, 2, 13, [])
        self.assert_window(DIARY, 1, 6, [])
        self.assert_window(DIARY, 2, 14, [(8, 10, 14), (8, 11, 14)])
        self.assert_window(DIARY, -6, 0, [(-6, -4, 0), (-6, -3, 0)])

    def test_one_day(self):
        for day in (-DAYS, -1, 0, 1, DAYS):
            self.assert_window(Diary.of(7, None, None), day, day, [(day, day)])
            self.assert_window(Diary.of(7, day % 7), day, day, [(day,)])
            self.assert_window(Diary.of(7, (day + 1) % 7), day, day, [])

    def test_no_calendar_at_all(self):
        self.assert_window(RING, 0, 13, [])
        self.assert_window(RING, -1000, 0, [])
        self.assert_window(Diary(7, (None,), ((0, 0, -1),)), 0, 1000, [])
        loop = tuple((event, (event + 1) % 16, 0) for event in range(15)) + ((15, 0, -1),)
        self.assert_window(Diary(7, (None,) * 16, loop), 0, 1000, [])
        self.assert_window(Diary(7, (None,) * 16, loop[::-1]), 0, 1000, [])
        self.assert_window(Diary(100, (50,) * 15 + (None,), loop), 0, 1000, [])

    def test_start(self):
        whole = listed(DIARY, 0, 30)
        self.assertEqual(len(whole), 8)
        for start in range(9):
            self.assertEqual(listed(DIARY, 0, 30, start=start), whole[start:])
        self.assertEqual(listed(RING, 0, 30, start=0), [])

    def test_ascending_by_the_days_of_the_first_events(self):
        self.assert_window(Diary.of(7, None, None), 3, 4, [(3, 3), (3, 4), (4, 3), (4, 4)])
        diary = Diary(7, (None, None), ((0, 1, 0),))
        self.assert_window(diary, -1, 1, [(-1, -1), (0, -1), (0, 0), (1, -1), (1, 0), (1, 1)])

    def test_later_events_leave_out_days_of_earlier_ones(self):
        # Event 0 is on a day of event 1 or the next day, but event 1 is on few days.
        diary = Diary(5, (None, 2), ((1, 0, 1), (0, 1, 0)))
        self.assert_window(diary, 0, 12, [(2, 2), (3, 2), (7, 7), (8, 7), (12, 12)])

    def test_against_all_days(self):
        source = random.Random(71)
        found = {"none": 0, "one": 0, "more": 0}
        for _ in range(500):
            diary = small_diary(source)
            low = source.randint(-9, 9)
            high = low + source.randint(0, 6 if len(diary) > 3 else 9)
            wanted = all_days(diary, low, high)
            if len(wanted) <= 1000:
                self.assert_window(diary, low, high, wanted)
                found["none" if not wanted else "one" if len(wanted) == 1 else "more"] += 1
            else:
                self.assert_refused(diary, low, high)
        self.assertGreater(min(found.values()), 30)

    def test_far_away(self):
        source = random.Random(72)
        for _ in range(60):
            diary = small_diary(source)
            far = source.choice((DAYS, -DAYS, 10 ** 8))
            wanted = all_days(diary.shifted(-far), 0, 5)
            if len(wanted) <= 1000:
                moved = [tuple(day + far for day in days) for days in wanted]
                self.assert_window(diary, far, far + 5, moved)


class OrderTest(WindowTestCase):
    """Diaries in which the order of the events is not the one in which their days depend on each other."""

    def test_events_that_follow_another_one(self):
        same = ((0, 2, 0), (2, 0, 0), (1, 2, 0), (2, 1, 0))
        for weekdays in itertools.product((None, 3), repeat=3):
            days = range(-100, 101) if weekdays == (None,) * 3 else range(-95, 101, 7)
            self.assert_window(Diary(7, weekdays, same), -100, 100, [(day,) * 3 for day in days])
        apart = ((0, 1, -5), (1, 0, 5), (2, 0, 9), (0, 2, -9))
        for weekdays in ((None, None, None), (6, 1, 4), (6, None, None), (None, 1, None), (None, None, 4), (None, 1, 4)):
            days = range(9, 201) if weekdays == (None,) * 3 else range(13, 201, 7)
            self.assert_window(Diary(7, weekdays, apart), 0, 200, [(day, day - 5, day - 9) for day in days])
        self.assert_window(Diary(7, (6, 2, None), apart), 0, 200, [])

    def test_events_held_by_the_window(self):
        self.assert_window(Diary(100, (7, None, 99), ((0, 1, 0), (2, 1, -92))), 0, 99, [(7, day, 99) for day in range(8)])
        self.assert_window(Diary(100, (None, 7, None), ((0, 1, 0), (1, 2, 0))), 0, 99, sorted(
            (first, 7, last) for first in range(7, 100) for last in range(8)))

    def test_undated_events_ahead_of_dated_ones(self):
        diary = Diary(10, (None, None, 4, 8), ((2, 0, 1), (0, 2, 1), (3, 1, 0), (1, 3, 1)))
        near = [(a + d, b + e, a, b) for a in range(4, 60, 10) for b in range(8, 60, 10) for d in (-1, 0, 1) for e in (-1, 0)]
        self.assert_window(diary, 0, 59, sorted(near))
        near = [days for days in near if days[1] - days[0] <= -3]
        self.assert_window(diary.adding((0, 1, -3)), 0, 59, sorted(near))

    def test_one_and_two_events_in_wide_windows(self):
        source = random.Random(76)
        sizes = []
        for _ in range(80):
            days = [source.randint(0, 60) for _ in range(source.choice((1, 2, 2, 2)))]
            diary = diary_of_days(source, source.choice((2, 7, 30)), days, source.randint(1, 3), source.choice((2, 9, 40)))
            wanted = all_days(diary, -3, 63)
            sizes.append(len(wanted))
            if len(wanted) <= 1000:
                self.assert_window(diary, -3, 63, wanted)
            else:
                self.assert_refused(diary, -3, 63)
        self.assertGreater(len([size for size in sizes if 100 <= size <= 1000]), 10)

    def test_three_and_more_events(self):
        source = random.Random(77)
        sizes = []
        for _ in range(60):
            many, last = source.choice(((3, 13), (4, 7), (5, 4), (6, 3)))
            days = [source.randint(0, last) for _ in range(many)]
            diary = diary_of_days(source, source.choice((2, 3, 7)), days, source.randint(2, 9), source.choice((0, 1, 3)))
            wanted = all_days(diary, 0, last)
            sizes.append(len(wanted))
            if len(wanted) <= 1000:
                self.assert_window(diary, 0, last, wanted)
            else:
                self.assert_refused(diary, 0, last)
        self.assertGreater(len([size for size in sizes if 100 <= size <= 1000]), 10)


class TimeTest(WindowTestCase):
    """Windows with many calendars are counted and refused without a call of a function for each calendar."""

    SAME = Diary.of(7, None, None, None).adding((0, 2, 0), (2, 0, 0), (1, 2, 0), (2, 1, 0))

    def test_counted(self):
        for diary, high, many in ((Diary.of(7, None), 999, 1000), (Diary.of(7, None, None), 30, 961), (self.SAME, 999, 1000)):
            self.assertEqual(count_calendars(diary, 0, high), many)
            self.assertLess(calls_of(count_calendars, diary, 0, high), many / 4)

    def test_listed(self):
        for diary, high, many in ((Diary.of(7, None), 999, 1000), (Diary.of(7, None, None), 30, 961), (self.SAME, 999, 1000)):
            days = (high // 2,) * len(diary)
            # Each calendar that is yielded is a call of its own.
            self.assertLess(calls_of(listed, diary, 0, high), many * 2.5)
            self.assertLess(calls_of(calendar_by_rank, diary, 0, high, many // 2), many * 1.5)
            self.assertLess(calls_of(rank_of, diary, 0, high, days), many * 1.5)

    def test_refused(self):
        free = [(Diary.of(7, *(None,) * many), high) for many, high in ((1, 1000), (2, 31), (3, 500))]
        for diary, high in free + [(self.SAME, 1000)]:
            self.assert_refused(diary, 0, high)
            for call, *more in ((count_calendars,), (listed,), (first_one,), (calendar_by_rank, 0), (rank_of, (0,))):
                self.assertLess(calls_of(self.refused, call, diary, 0, high, *more), 250)

    def refused(self, call, *args):
        try:
            call(*args)
        except LimitExceeded:
            pass


class LimitTest(WindowTestCase):
    def test_around_the_limit(self):
        free = Diary.of(7, None)
        for many in (1, 2, 999, 1000):
            self.assert_window(free, 5, many + 4, [(day,) for day in range(5, many + 5)])
        self.assert_refused(free, 5, 1005)

    def test_around_the_limit_with_two_events(self):
        # Up to day 99 event 2 is on day 0; events 0 and 1 have so many days from there on.
        for first, second in ((1, 99), (25, 40), (40, 25), (27, 37), (13, 77), (91, 11), (100, 100)):
            bounds = ((2, 0, first - 1), (0, 2, 0), (2, 1, second - 1), (1, 2, 0))
            diary = Diary(100, (None, None, 0), bounds)
            if first * second <= 1000:
                self.assert_window(diary, 0, 99, [(a, b, 0) for a in range(first) for b in range(second)])
            else:
                self.assert_refused(diary, 0, 99)

    def test_exact_numbers(self):
        for days, many in ((999, 999), (1000, 1000)):
            pair = Diary(7, (None, None), ((0, 1, 0), (1, 0, 0)))
            self.assert_window(pair, 0, many - 1, [(day, day) for day in range(days)])
        self.assert_refused(Diary(7, (None, None), ((0, 1, 0), (1, 0, 0))), 0, 1000)
        self.assert_window(Diary.of(100, 0, 0, 0), 0, 999, list(itertools.product(range(0, 1000, 100), repeat=3)))
        self.assert_refused(Diary.of(100, 0, 0, 0), 0, 1000)

    def test_far_more(self):
        for weekdays in ((None,) * 16, (0,) * 16, (0, None) * 8, (None, 6) * 8):
            self.assert_refused(Diary.of(7, *weekdays), 0, 1000)
            self.assert_refused(Diary.of(100, *weekdays), -DAYS, -DAYS + 1000)
        self.assert_refused(Diary.of(100, *range(0, 96, 6)), DAYS, DAYS + 1000)
        chain = tuple((event, event + 1, 0) for event in range(15))
        self.assert_refused(Diary(7, (None,) * 16, chain), 0, 1000)
        self.assert_refused(Diary(7, (None,) * 16, chain).mirrored(), 0, 1000)
        self.assert_refused(Diary.of(2, *(None,) * 16), 0, 1)

    def test_large_diaries(self):
        source = random.Random(73)
        sizes = {}
        for diary, days in large_diaries(source, 60):
            low = min(days) - source.randint(0, 200)
            if max(days) > low + 1000:
                continue
            high = source.randint(max(days), low + 1000)
            try:
                count = count_calendars(diary, low, high)
            except LimitExceeded:
                self.assert_refused(diary, low, high)
                sizes["refused"] = sizes.get("refused", 0) + 1
                continue
            found = listed(diary, low, high)
            self.assertEqual(len(found), count)
            self.assertEqual(found, sorted(set(found)))
            self.assertTrue(all(is_calendar(diary, row) for row in found))
            self.assertTrue(all(low <= min(row) and max(row) <= high for row in found))
            self.assertIn(days, found)
            sizes["listed"] = sizes.get("listed", 0) + 1
        self.assertGreater(min(sizes["refused"], sizes["listed"]), 3)

    def test_many_events_with_few_days_each(self):
        # All calendars of 16 events that are together within two days, by all their days.
        source = random.Random(74)
        for _ in range(4):
            pairs = [(source.randrange(16), source.randrange(16)) for _ in range(50)]
            diary = Diary(7, (None,) * 16, tuple((a, b, source.randint(0, 1)) for a, b in pairs))
            wanted = [days for days in itertools.product((0, 1), repeat=16)
                      if all(days[b] - days[a] <= w for a, b, w in diary.bounds)]
            if len(wanted) <= 1000:
                self.assert_window(diary, 0, 1, wanted)
            else:
                self.assert_refused(diary, 0, 1)


class RankTest(WindowTestCase):
    def test_inverse(self):
        source = random.Random(75)
        for _ in range(40):
            diary = small_diary(source)
            wanted = all_days(diary, 0, 5)
            if len(wanted) <= 200:
                for rank, days in enumerate(wanted):
                    self.assertEqual(calendar_by_rank(diary, 0, 5, rank), days)
                    self.assertEqual(rank_of(diary, 0, 5, days), rank)

    def test_no_ranks(self):
        for value in [-1, 2, 3, LONG, -LONG, tower(0)] + no_integers():
            self.assert_value(InvalidRank, calendar_by_rank, value, DIARY, 0, 13, value)
            self.assert_value(InvalidRank, calendar_by_rank, value, rank=value, high=13, low=0, diary=DIARY)
        for value in [-1, 3, 4, LONG, -LONG, tower(0)] + no_integers():
            self.assert_value(InvalidRank, listed, value, DIARY, 0, 13, start=value)
            self.assert_value(InvalidRank, first_one, value, start=value, high=13, low=0, diary=DIARY)

    def test_ranks_at_the_end(self):
        self.assertEqual(listed(DIARY, 0, 13, start=2), [])
        self.assert_value(InvalidRank, calendar_by_rank, 2, DIARY, 0, 13, 2)
        self.assert_value(InvalidRank, calendar_by_rank, 0, RING, 0, 13, 0)
        self.assertEqual(listed(RING, 0, 13, start=0), [])
        self.assert_value(InvalidRank, listed, 1, RING, 0, 13, start=1)
        free = Diary.of(7, None)
        self.assertEqual(listed(free, 1, 1000, start=999), [(1000,)])
        self.assertEqual(listed(free, 1, 1000, start=1000), [])
        self.assert_value(InvalidRank, listed, 1001, free, 1, 1000, start=1001)
        self.assertEqual(calendar_by_rank(free, 1, 1000, 999), (1000,))
        self.assert_value(InvalidRank, calendar_by_rank, 1000, free, 1, 1000, 1000)

    def test_no_calendars_as_days(self):
        values = [None, 0, LONG, (), (1,), (1, 4), (1, 4, 7, 7), [1, 4, 7], (2, 4, 7), (1, 4, 8), (1, 5, 7), (1, 2, 7),
                  (1, 1, 0), (1, True, 7), (2, 9, 6), (15, 19, 21), (Odd(), Odd(), Odd()), tower(1)]
        for value in values + other_values() + odd_tuples():
            known = self.error(InvalidDays, check_calendar, DIARY, value)
            self.assert_fields(vars(known), InvalidDays, rank_of, DIARY, 0, 13, value)
            self.assert_fields(vars(known), InvalidDays, rank_of, days=value, high=13, low=0, diary=DIARY)

    def test_days_that_are_not_in_the_window(self):
        for low, high, item in ((2, 13, 0), (0, 6, 2), (0, 3, 1), (8, 20, 0), (4, 7, 0), (-10, 0, 0), (1, 1, 1), (5, 6, 0)):
            fields = {"part": "window", "item": item}
            self.assert_fields(fields, InvalidDays, rank_of, DIARY, low, high, (1, 4, 7))
        self.assertEqual(rank_of(DIARY, 1, 7, (1, 4, 7)), 1)
        free = Diary.of(7, None, None)
        for days, item in (((0, 5), 0), ((1, 5), 1), ((4, 0), 0), ((3, 0), 1), ((0, 0), 0), ((LONG, 1), 0), ((1, -LONG), 1)):
            self.assert_fields({"part": "window", "item": item}, InvalidDays, rank_of, free, 1, 3, days)

    def test_days_are_a_calendar_ahead_of_the_window(self):
        self.assert_fields({"part": "bound", "item": 0}, InvalidDays, rank_of, DIARY, 0, 13, (15, 19, 21))
        self.assert_fields({"part": "weekday", "item": 2}, InvalidDays, rank_of, DIARY, 0, 13, (15, 18, 20))
        self.assert_fields({"part": "window", "item": 0}, InvalidDays, rank_of, DIARY, 0, 13, (15, 18, 21))
        self.assert_fields({"part": "bound", "item": 0}, InvalidDays, rank_of, RING, 0, 13, (15, 19, 21))


class ErrorsTest(WindowTestCase):
    CALLS = ((count_calendars, ()), (listed, ()), (first_one, ()), (calendar_by_rank, (None,)), (rank_of, (None,)))
    FREE = Diary.of(7, None)

    def assert_part(self, part, low, high):
        for diary in (DIARY, RING, self.FREE):
            for call, more in self.CALLS:
                self.assert_fields({"part": part}, InvalidWindow, call, diary, low, high, *more)
        self.assert_fields({"part": part}, InvalidWindow, count_calendars, high=high, low=low, diary=DIARY)
        self.assert_fields({"part": part}, InvalidWindow, listed, start=None, high=high, low=low, diary=DIARY)

    def test_low(self):
        for value in [-DAYS - 1, DAYS + 1, LONG, -LONG, tower(0)] + no_integers():
            self.assert_part("low", value, 0)
            self.assert_part("low", value, value)

    def test_high(self):
        for value in [-1, 1001, LONG, -LONG, tower(0)] + no_integers():
            self.assert_part("high", 0, value)
        for low, high in ((5, 4), (5, 1006), (-DAYS, -DAYS - 1), (-DAYS, -DAYS + 1001), (DAYS, DAYS - 1), (DAYS, DAYS + 1001)):
            self.assert_part("high", low, high)

    def test_windows_at_the_ends(self):
        for low in (-DAYS, 0, DAYS):
            self.assertEqual(count_calendars(self.FREE, low, low), 1)
            self.assertEqual(count_calendars(self.FREE, low, low + 999), 1000)
            self.assert_refused(self.FREE, low, low + 1000)
            self.assertEqual(count_calendars(Diary.of(2, 0), low, low + 1000), 501)

    def test_limit_comes_before_rank_and_days(self):
        for value in [None, -1, LONG, tower(0), (LONG,), ("x",)]:
            fields = {"limit": 1000}
            self.assert_fields(fields, LimitExceeded, listed, self.FREE, 0, 1000, start=value)
            self.assert_fields(fields, LimitExceeded, calendar_by_rank, self.FREE, 0, 1000, value)
            self.assert_fields(fields, LimitExceeded, rank_of, self.FREE, 0, 1000, value)

    def test_errors_come_before_anything_is_yielded(self):
        self.assert_fields({"part": "low"}, InvalidWindow, first_one, DIARY, None, None, start=None)
        self.assert_fields({"part": "high"}, InvalidWindow, first_one, DIARY, 0, None, start=None)
        self.assert_fields({"limit": 1000}, LimitExceeded, first_one, self.FREE, 0, 1000, start=None)
        self.assert_value(InvalidRank, first_one, None, self.FREE, 0, 10, start=None)

    def test_arguments_stay_as_they_were(self):
        days = [1, 4, 7]
        self.assert_fields({"part": "form", "item": None}, InvalidDays, rank_of, DIARY, 0, 13, days)
        self.assertEqual(days, [1, 4, 7])
        self.assertEqual(DIARY, Diary(7, (1, None, 0), ((0, 1, 3), (1, 2, 4), (2, 0, -6))))


if __name__ == "__main__":
    unittest.main()
