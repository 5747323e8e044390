"""Points 16, 20, 22 and 23: the greatest and the least gap."""

import random
import unittest

from tests.gap_cases import DIARY, LOOP, RING, GapTestCase
from tests.helpers import LONG
from tests.samples import large_diaries, least_of, most_of, random_diary, ranges_of, small_diaries
from weekdaylegs.decisions import has_calendar
from weekdaylegs.diaries import Diary
from weekdaylegs.errors import InvalidEvent
from weekdaylegs.gaps import check_greatest, check_least, greatest_gap, least_gap

DAYS = 10 ** 9


class EndsTestCase(GapTestCase):
    def ends(self, diary, first, second):
        """Return the least and the greatest gap, after all checks of the answers, None for an open one."""
        low = least_gap(diary, first, second)
        high = greatest_gap(diary, first, second)
        least, most = self.assert_least(diary, first, second, low), self.assert_most(diary, first, second, high)
        self.assertEqual(check_least(diary, first, second, low), least)
        self.assertEqual(check_greatest(diary, first, second, high), most)
        return least, most


class SmallDiariesTest(EndsTestCase):
    def test_example_of_the_document(self):
        diary = Diary(7, (0, 0, None), ((1, 0, 0), (2, 1, 0), (1, 2, 1)))
        self.assertEqual(least_gap(diary, 0, 2)[1], 0)
        self.assertEqual(greatest_gap(diary, 0, 2), ("open", (0,)))
        self.assertEqual(self.ends(diary, 0, 2), (0, None))

    def test_by_position_and_by_name(self):
        self.assertEqual(greatest_gap(second=1, diary=DIARY, first=0), greatest_gap(DIARY, 0, 1))
        self.assertEqual(least_gap(second=1, diary=DIARY, first=0), least_gap(DIARY, 0, 1))
        self.assertEqual((greatest_gap(DIARY, 0, 1)[1], least_gap(DIARY, 0, 1)[1]), (3, 2))

    def test_whole_answers(self):
        # What is compared here leaves no choice.
        self.assertEqual(greatest_gap(DIARY, 0, 1)[:2] + greatest_gap(DIARY, 0, 1)[3:], ("most", 3, (), (0,)))
        self.assertEqual(greatest_gap(DIARY, 2, 1)[:2] + greatest_gap(DIARY, 2, 1)[3:], ("most", -3, ((2,),), (0,)))
        self.assertEqual(least_gap(DIARY, 0, 1)[:2] + least_gap(DIARY, 0, 1)[3:], ("least", 2, ((2,),), (1,)))
        self.assertEqual(least_gap(DIARY, 2, 1)[:2] + least_gap(DIARY, 2, 1)[3:], ("least", -4, (), (1,)))

    def test_numbers_are_empty_if_second_is_dated(self):
        self.assertEqual(greatest_gap(DIARY, 0, 2)[3:], (((0, 1),), ()))
        self.assertEqual(least_gap(DIARY, 0, 2)[3:], (((2,),), ()))
        self.assertEqual(self.ends(DIARY, 0, 2), (6, 6))

    def test_first_and_second_equal(self):
        for diary in (DIARY, Diary.of(7, 3), Diary(7, (3,), ((0, 0, 0),)), Diary(7, (3,), ((0, 0, 20),))):
            self.assertEqual(self.ends(diary, 0, 0), (0, 0))
            self.assertEqual(greatest_gap(diary, 0, 0)[3:], ((), ()))
            self.assertEqual(least_gap(diary, 0, 0)[3:], ((), ()))

    def test_without_bounds(self):
        diary = Diary.of(7, 1, 2, None)
        for second in (1, 2):
            self.assertEqual(self.ends(diary, 0, second), (None, None))
            self.assertEqual(greatest_gap(diary, 0, second), ("open", (0,)))
            self.assertEqual(least_gap(diary, 0, second), ("open", (0,)))

    def test_open_ends(self):
        # Bounds lead from 0 over 1 to 2 and back to 1, and from 3 to 0.
        diary = Diary(7, (0, None, 2, None), ((0, 1, 5), (1, 2, 5), (2, 1, 9), (3, 0, 1)))
        self.assertEqual(greatest_gap(diary, 0, 3), ("open", (0, 1, 2)))
        self.assertEqual(greatest_gap(diary, 2, 0), ("open", (1, 2)))
        self.assertEqual(least_gap(diary, 0, 1), ("open", (0, 3)))
        self.assertEqual(self.ends(diary, 0, 1), (None, 5))
        self.assertEqual(self.ends(diary, 0, 3), (-1, None))
        self.assertEqual(self.ends(diary, 2, 1), (-5, 9))

    def test_lengths_are_rounded_down_at_every_dated_event(self):
        bounds = ((0, 1, 6), (1, 2, 6), (2, 3, 6))
        self.assertEqual(self.ends(Diary(7, (0, None, None, None), bounds), 0, 3), (None, 18))
        self.assertEqual(self.ends(Diary(7, (0, None, None, 0), bounds), 0, 3), (None, 14))
        self.assertEqual(self.ends(Diary(7, (0, 0, None, 0), bounds), 0, 3), (None, 7))
        self.assertEqual(self.ends(Diary(7, (0, 0, 0, 0), bounds), 0, 3), (None, 0))
        self.assertEqual(self.ends(Diary(7, (0, 0, 0, None), bounds), 0, 3), (None, 6))
        self.assertEqual(self.ends(Diary(7, (0, 0, 0, None), bounds).mirrored(), 0, 3), (-6, None))

    def test_legs_that_come_back_to_an_event(self):
        # From 0 over 4 to 1, and only from there over 4 once more: the direct walk is longer.
        diary = Diary(10, (0, 5, None, None, None), ((0, 4, 6), (4, 1, 3), (1, 4, 0), (4, 2, 1)))
        self.assertEqual(self.ends(diary, 0, 2), (None, 6))
        answer = greatest_gap(diary, 0, 2)
        self.assertEqual(answer[3:], (((0, 1),), (2, 3)))
        self.assertEqual(self.ends(diary.mirrored(), 0, 2), (-6, None))
        self.assertEqual(least_gap(diary.mirrored(), 0, 2)[3:], (((1, 0),), (3, 2)))

    def test_walk_with_several_undated_stops(self):
        diary = Diary(7, (0, None, None, None), ((0, 1, 3), (1, 2, -9), (2, 3, 4), (0, 3, 5), (3, 0, 7)))
        self.assertEqual(self.ends(diary, 0, 3), (-7, -2))
        self.assertEqual(greatest_gap(diary, 0, 3)[3:], ((), (0, 1, 2)))
        self.assertEqual(least_gap(diary, 0, 2)[3:], ((), (2, 4)))

    def test_parallel_bounds(self):
        diary = Diary(7, (0, None), ((0, 1, 4), (0, 1, 2), (0, 1, 3), (1, 0, 9), (1, 0, 8)))
        self.assertEqual(self.ends(diary, 0, 1), (-8, 2))
        self.assertEqual((greatest_gap(diary, 0, 1)[4], least_gap(diary, 0, 1)[4]), ((1,), (4,)))

    def test_other_events_stay_possible(self):
        # Event 2 has no bound but one to event 1: it has to be late enough for it.
        for most in (0, -5, -DAYS):
            for weekday in (None, 3):
                diary = Diary(7, (0, None, weekday), ((0, 1, 9), (2, 1, most)))
                self.assertEqual(self.ends(diary, 0, 1), (None, 9))
                self.assertEqual(self.ends(diary.mirrored(), 0, 1), (-9, None))

    def test_same_answers_again(self):
        for call in (greatest_gap, least_gap):
            for second in range(3):
                self.assertEqual(call(DIARY, 0, second), call(DIARY, 0, second))
        self.assertEqual(DIARY, Diary(7, (1, None, 0), ((0, 1, 3), (1, 2, 4), (2, 0, -6))))

    def test_against_all_ways_to_give_weekdays(self):
        source = random.Random(31)
        found = {}
        for diary, ways in small_diaries(source, 1500):
            for second in range(len(diary)):
                ends = list(ranges_of(ways, 0, second).values())
                wanted = least_of(ends), most_of(ends)
                self.assertEqual(self.ends(diary, 0, second), wanted)
                kind = second == 0, diary.weekdays[second] is None, wanted[0] is None, wanted[1] is None
                found[kind] = found.get(kind, 0) + 1
        self.assertEqual(len(found), 9)
        self.assertGreater(min(found.values()), 50)

    def test_gap_to_first_itself_is_0_in_all_diaries(self):
        for diary, _ in small_diaries(random.Random(32), 200):
            self.assertEqual(self.ends(diary, 0, 0), (0, 0))


class LargeDiariesTest(EndsTestCase):
    def test_known_calendars(self):
        # Calendar and legs of an answer prove each other; the known days must lie between.
        for diary, days in large_diaries(random.Random(33), 250):
            dated = [event for event, weekday in enumerate(diary.weekdays) if weekday is not None]
            for first in (0, dated[-1]):
                for second in range(len(diary)):
                    least, most = self.ends(diary, first, second)
                    gap = days[second] - days[first]
                    self.assertTrue(least is None or least <= gap)
                    self.assertTrue(most is None or gap <= most)

    def test_greatest_bound(self):
        for weekdays, wanted in (((0, None), (DAYS, DAYS)), ((0, 0), (DAYS, DAYS)), ((0, 1), None)):
            diary = Diary(100, weekdays, ((0, 1, DAYS), (1, 0, -DAYS)))
            self.assertEqual(has_calendar(diary), wanted is not None)
            if wanted:
                self.assertEqual(self.ends(diary, 0, 1), wanted)
        self.assertEqual(self.ends(Diary(100, (0, 99), ((0, 1, DAYS), (1, 0, DAYS))), 0, 1), (-DAYS + 99, DAYS - 1))
        self.assertEqual(self.ends(Diary(100, (0, None), ((0, 1, -DAYS), (1, 0, DAYS))), 0, 1), (-DAYS, -DAYS))

    def test_long_chains(self):
        chain = tuple((event, event + 1, DAYS) for event in range(15))
        self.assertEqual(self.ends(Diary(7, (3,) + (None,) * 15, chain), 0, 15), (None, 15 * DAYS))
        length = DAYS - DAYS % 7
        self.assertEqual(self.ends(Diary(7, (3,) * 16, chain), 0, 15), (None, 15 * length))
        self.assertEqual(self.ends(Diary(7, (3,) * 16, chain[::-1]), 0, 15), (None, 15 * length))
        self.assertEqual(self.ends(Diary(7, (3,) * 16, chain).mirrored(), 0, 15), (-15 * length, None))

    def test_legs_through_one_event_again_and_again(self):
        # Each bound over event 15 is so loose that only a leg to the next event is held to one day.
        onward = [(event, 15, 70 - 12 * event) for event in range(15)]
        back = [(15, event, 24 + 12 * event) for event in range(1, 15)]
        diary = Diary(100, tuple(7 * event for event in range(15)) + (None,), tuple(onward + back))
        for event in range(15):
            self.assertEqual(self.ends(diary, 0, event)[1], 7 * event)
            self.assertEqual(len(greatest_gap(diary, 0, event)[3]), event)
        self.assertEqual(self.ends(diary, 0, 15)[1], 0)
        self.assertEqual(len(greatest_gap(diary, 0, 15)[3]), 14)
        self.assertEqual(self.ends(diary.mirrored(), 0, 15)[0], 0)
        self.assertEqual(len(least_gap(diary.mirrored(), 0, 15)[3]), 14)

    def test_any_diaries_with_a_calendar(self):
        source = random.Random(34)
        seen = 0
        while seen < 100:
            diary = random_diary(source, source.choice((2, 7, 100)), 16, source.randint(5, 20), 400)
            if has_calendar(diary) and diary.weekdays[0] is not None:
                seen += 1
                for second in range(16):
                    self.ends(diary, 0, second)


class ErrorsTest(EndsTestCase):
    def test_first(self):
        for call in (greatest_gap, least_gap):
            for second in (0, 1, -1, LONG, None, "2"):
                self.assert_first(call, second=second)
            for value in ([0], (0,), "0", 1):
                self.assert_value(InvalidEvent, call, value, DIARY, value, 1)

    def test_second(self):
        for call in (greatest_gap, least_gap):
            self.assert_second(call)

    def test_no_calendar(self):
        for call in (greatest_gap, least_gap):
            for first in (0, 2):
                for second in range(3):
                    for diary in (RING, LOOP):
                        self.assert_reason(diary, call, diary, first, second)
                        self.assert_reason(diary, call, second=second, first=first, diary=diary)

    def test_events_come_before_no_calendar(self):
        for call in (greatest_gap, least_gap):
            for diary in (RING, LOOP):
                self.assert_value(InvalidEvent, call, 1, diary, 1, 3)
                self.assert_value(InvalidEvent, call, 3, diary, 0, 3)

    def test_no_calendar_of_any_diaries(self):
        source = random.Random(35)
        seen = 0
        while seen < 200:
            diary = random_diary(source, source.choice((2, 7, 100)), 16, source.randint(20, 60), 100).noting(0, 1)
            if not has_calendar(diary):
                seen += 1
                self.assert_reason(diary, source.choice((greatest_gap, least_gap)), diary, 0, source.randrange(16))


if __name__ == "__main__":
    unittest.main()
