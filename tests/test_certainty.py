"""Points 12, 16, 22 to 24 and 30: sure gaps and possible weekdays."""

import random
import unittest

from tests.gap_cases import DIARY, LOOP, RING, GapTestCase, no_events
from tests.samples import large_diaries, least_of, most_of, ranges_of, small_diaries
from weekdaylegs.certainty import possible_weekdays, sure_gaps
from weekdaylegs.decisions import has_calendar
from weekdaylegs.diaries import Diary
from weekdaylegs.errors import InvalidEvent
from weekdaylegs.gaps import greatest_gap, least_gap

DAYS = 10 ** 9


class SureGapsTest(GapTestCase):
    def test_example_of_the_document(self):
        self.assertEqual((sure_gaps(DIARY, 0), possible_weekdays(DIARY, 1)), (((0, 0), (2, 6)), (3, 4)))

    def test_by_name(self):
        self.assertEqual(sure_gaps(first=2, diary=DIARY), ((0, -6), (2, 0)))

    def test_first_alone(self):
        for diary in (Diary.of(7, 3), Diary.of(7, 3, 3, None), Diary(7, (3, 4), ((0, 1, 8),)), Diary(7, (3,), ((0, 0, 9),))):
            self.assertEqual(sure_gaps(diary, 0), ((0, 0),))

    def test_one_end_is_missing(self):
        self.assertEqual(sure_gaps(Diary(7, (3, 4, None), ((0, 1, 1), (2, 0, 0))), 0), ((0, 0),))
        self.assertEqual(sure_gaps(Diary(7, (3, 4, None), ((1, 0, -1), (0, 2, 0))), 0), ((0, 0),))

    def test_negative_gaps_and_undated_events(self):
        diary = Diary(7, (None, 3, None, 2), ((1, 0, -2), (0, 1, 2), (1, 2, 5), (2, 1, -4), (3, 1, -6), (1, 3, 12)))
        self.assertEqual(sure_gaps(diary, 1), ((0, -2), (1, 0), (3, 6)))
        self.assertEqual(sure_gaps(diary, 3), ((0, -8), (1, -6), (3, 0)))
        self.assertEqual(sure_gaps(diary.between(2, 0, most=-7), 1), ((0, -2), (1, 0), (2, 5), (3, 6)))

    def test_weekdays_alone_make_a_gap_sure(self):
        bounds = ((0, 1, 6), (1, 0, 0))
        self.assertEqual(sure_gaps(Diary(7, (5, 2), bounds), 0), ((0, 0), (1, 4)))
        self.assertEqual(sure_gaps(Diary(7, (5, None), bounds), 0), ((0, 0),))

    def test_greatest_bound(self):
        self.assertEqual(sure_gaps(Diary(7, (0, None), ((0, 1, DAYS), (1, 0, -DAYS))), 0), ((0, 0), (1, DAYS)))

    def test_against_all_ways_to_give_weekdays(self):
        several = 0
        for diary, ways in small_diaries(random.Random(51), 1000):
            wanted = []
            for event in range(len(diary)):
                ends = list(ranges_of(ways, 0, event).values())
                if least_of(ends) is not None and least_of(ends) == most_of(ends):
                    wanted.append((event, least_of(ends)))
            self.assertEqual(sure_gaps(diary, 0), tuple(wanted))
            several += len(wanted) > 1
        self.assertGreater(several, 50)

    def test_large_diaries(self):
        for diary, days in large_diaries(random.Random(52), 100):
            found = sure_gaps(diary, 0)
            self.assertIs(type(found), tuple)
            wanted = []
            for event in range(len(diary)):
                if least_gap(diary, 0, event)[0] == "least" and greatest_gap(diary, 0, event)[0] == "most":
                    if least_gap(diary, 0, event)[1] == greatest_gap(diary, 0, event)[1]:
                        wanted.append((event, days[event] - days[0]))
            self.assertEqual(found, tuple(wanted))

    def test_errors(self):
        self.assert_first(sure_gaps)
        for diary in (RING, LOOP):
            self.assert_value(InvalidEvent, sure_gaps, 1, diary, 1)
            for first in (0, 2):
                self.assert_reason(diary, sure_gaps, diary, first)
                self.assert_reason(diary, sure_gaps, first=first, diary=diary)


class PossibleWeekdaysTest(GapTestCase):
    def test_by_name(self):
        self.assertEqual(possible_weekdays(event=1, diary=DIARY), (3, 4))

    def test_dated_events(self):
        self.assertEqual((possible_weekdays(DIARY, 0), possible_weekdays(DIARY, 2)), ((1,), (0,)))
        self.assertEqual(possible_weekdays(Diary.of(100, 99), 0), (99,))

    def test_all_weekdays(self):
        for modulus in (2, 7, 100):
            self.assertEqual(possible_weekdays(Diary.of(modulus, None), 0), tuple(range(modulus)))
            loose = Diary(modulus, (0, None), ((0, 1, modulus - 1), (1, 0, 0)))
            self.assertEqual(possible_weekdays(loose, 1), tuple(range(modulus)))

    def test_weekdays_around_the_end_of_a_week(self):
        near = Diary(7, (6, None), ((0, 1, 2), (1, 0, 1)))
        self.assertEqual(possible_weekdays(near, 1), (0, 1, 5, 6))

    def test_a_bound_from_an_event_to_itself(self):
        self.assertEqual(possible_weekdays(Diary(7, (None,), ((0, 0, 0),)), 0), tuple(range(7)))
        self.assertEqual(possible_weekdays(Diary(7, (None,), ((0, 0, 3),)), 0), tuple(range(7)))

    def test_rings_through_several_events(self):
        # Event 1 is on the day of event 0 or the next one, and event 2 likewise after event 1.
        diary = Diary(7, (0, None, None), ((0, 1, 1), (1, 0, 0), (1, 2, 1), (2, 1, 0)))
        self.assertEqual((possible_weekdays(diary, 1), possible_weekdays(diary, 2)), ((0, 1), (0, 1, 2)))
        self.assertEqual(possible_weekdays(diary.noting(2, 2), 1), (1,))

    def test_against_all_ways_to_give_weekdays(self):
        fewer = 0
        for diary, ways in small_diaries(random.Random(53), 1000, dated=False):
            for event in range(len(diary)):
                wanted = tuple(sorted({noted[event] for noted, _ in ways}))
                self.assertEqual(possible_weekdays(diary, event), wanted)
                fewer += diary.weekdays[event] is None and len(wanted) < diary.modulus
        self.assertGreater(fewer, 50)

    def test_large_diaries(self):
        source = random.Random(54)
        for diary, days in large_diaries(source, 40):
            for event in range(len(diary)):
                found = possible_weekdays(diary, event)
                self.assertEqual(found, tuple(sorted(set(found))))
                self.assertIn(days[event] % diary.modulus, found)
                if diary.weekdays[event] is None:
                    for weekday in source.sample(range(diary.modulus), 2):
                        self.assertIs(weekday in found, has_calendar(diary.noting(event, weekday)))
                else:
                    self.assertEqual(found, (diary.weekdays[event],))

    def test_errors(self):
        for diary in (DIARY, RING, LOOP):
            for value in no_events(diary):
                self.assert_value(InvalidEvent, possible_weekdays, value, diary, value)
                self.assert_value(InvalidEvent, possible_weekdays, value, event=value, diary=diary)
        for diary in (RING, LOOP):
            for event in range(3):
                self.assert_reason(diary, possible_weekdays, diary, event)
                self.assert_reason(diary, possible_weekdays, event=event, diary=diary)


if __name__ == "__main__":
    unittest.main()
