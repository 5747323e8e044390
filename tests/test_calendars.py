"""Point 12: calendars of a diary."""

import random
import unittest

from tests.helpers import LONG, Odd, ProgramTestCase, calls_of, no_integers, other_values, odd_tuples, tower
from tests.samples import large_diaries, random_diary
from weekdaylegs.diaries import Diary, check_calendar, is_calendar
from weekdaylegs.errors import InvalidDays

DIARY = Diary(7, (1, None, 0), ((0, 1, 3), (1, 2, 4), (2, 0, -6)))
FORM = {"part": "form", "item": None}


def fault_of(diary, days):
    """Return the part and the item of what is first wrong with so many integers, or None."""
    for event, weekday in enumerate(diary.weekdays):
        if weekday not in (None, days[event] % diary.modulus):
            return "weekday", event
    for item, (first, last, most) in enumerate(diary.bounds):
        if days[last] > days[first] + most:
            return "bound", item
    return None


class CalendarTest(ProgramTestCase):
    def assert_calendar(self, diary, days):
        self.assertIsNone(check_calendar(diary, days))
        self.assertIsNone(check_calendar(days=days, diary=diary))
        self.assertIs(is_calendar(diary, days), True)
        self.assertIs(is_calendar(days=days, diary=diary), True)

    def assert_no_calendar(self, part, item, diary, days):
        fields = {"part": part, "item": item}
        self.assert_fields(fields, InvalidDays, check_calendar, diary, days)
        self.assert_fields(fields, InvalidDays, check_calendar, days=days, diary=diary)
        self.assertIs(is_calendar(diary, days), False)
        self.assertIs(is_calendar(days=days, diary=diary), False)

    def test_example_of_the_document(self):
        diary = Diary.of(7, 1, None, 0).adding((0, 1, 3), (1, 2, 4)).between(0, 2, least=6)
        found = diary.bounds, is_calendar(diary, (1, 4, 7)), diary.event(2).latest(10), list(diary.event(0).choices())
        self.assertEqual(found, (((0, 1, 3), (1, 2, 4), (2, 0, -6)), True, 7, [1]))

    def test_calendars(self):
        self.assert_calendar(DIARY, (1, 3, 7))
        self.assert_calendar(DIARY, (1, 4, 7))
        self.assert_calendar(DIARY, (-6, -4, 0))
        self.assert_calendar(DIARY, (1 + 7 * LONG, 3 + 7 * LONG, 7 + 7 * LONG))
        self.assert_calendar(Diary.of(7, None), (-LONG,))

    def test_form(self):
        for days in [None, 0, LONG, [1, 4, 7], (), (1,), (1, 4), (1, 4, 7, 7), (1, 4, 7) * 100000] + other_values():
            self.assert_no_calendar("form", None, DIARY, days)
        for value in no_integers():
            self.assert_no_calendar("form", None, DIARY, (value, 4, 7))
            self.assert_no_calendar("form", None, DIARY, (1, 4, value))
            self.assert_no_calendar("form", None, Diary.of(7, None), (value,))

    def test_form_of_values_with_very_many_parts(self):
        for days in odd_tuples() + [tower(1), (1, 4, tower(7)), (tower(1),) * 3]:
            self.assert_no_calendar("form", None, DIARY, days)

    def test_form_is_first(self):
        self.assert_no_calendar("form", None, DIARY, (2, 4, True))
        self.assert_no_calendar("form", None, DIARY, (2, 4, None))
        self.assert_no_calendar("form", None, DIARY, (2, 9))
        self.assert_no_calendar("form", None, DIARY, (Odd(), Odd(), Odd()))

    def test_weekday_is_next(self):
        self.assert_no_calendar("weekday", 0, DIARY, (2, 4, 7))
        self.assert_no_calendar("weekday", 0, DIARY, (2, 4, 8))
        self.assert_no_calendar("weekday", 2, DIARY, (1, 4, 8))
        self.assert_no_calendar("weekday", 2, DIARY, (1, 9, 6))
        self.assert_no_calendar("weekday", 0, DIARY, (-1, 9, -LONG))

    def test_bound_is_last(self):
        self.assert_no_calendar("bound", 0, DIARY, (1, 5, 7))
        self.assert_no_calendar("bound", 1, DIARY, (1, 2, 7))
        self.assert_no_calendar("bound", 2, DIARY, (1, 1, 0))
        self.assert_no_calendar("bound", 0, DIARY, (1, 5, 14))
        self.assert_no_calendar("bound", 1, DIARY, (1, 4, 14))
        self.assert_no_calendar("bound", 0, DIARY, (1, 1 + LONG, 0))

    def test_bounds_from_an_event_to_itself(self):
        self.assert_calendar(Diary(7, (None,), ((0, 0, 0),)), (3,))
        self.assert_no_calendar("bound", 1, Diary(7, (None,), ((0, 0, 0), (0, 0, -1))), (3,))

    def test_every_day_of_a_small_diary(self):
        diary = Diary(3, (2, None), ((0, 1, 1), (1, 0, 1)))
        for first in range(-6, 7):
            for second in range(-6, 7):
                wanted = first % 3 == 2 and abs(second - first) <= 1
                self.assertIs(is_calendar(diary, (first, second)), wanted)

    def test_days_of_any_diaries(self):
        source = random.Random(91)
        parts = {}
        for _ in range(4000):
            events, modulus = source.choice((1, 2, 16)), source.choice((2, 7, 100))
            diary = random_diary(source, modulus, events, source.choice((0, 3, 60)), source.choice((5, 300)))
            days = [source.randint(-200, 200) for _ in range(events)]
            for event, weekday in enumerate(diary.weekdays):
                if weekday is not None and source.random() < 0.97:
                    days[event] += (weekday - days[event]) % modulus
            fault = fault_of(diary, days)
            if fault is None:
                self.assert_calendar(diary, tuple(days))
            else:
                self.assert_no_calendar(*fault, diary, tuple(days))
            part = None if fault is None else fault[0]
            parts[part] = parts.get(part, 0) + 1
        self.assertGreater(min(parts.values()), 150)
        self.assertEqual(len(parts), 3)

    def test_known_calendars_with_one_wrong_day(self):
        source = random.Random(92)
        for diary, days in large_diaries(source, 300):
            self.assert_calendar(diary, days)
            wrong = list(days)
            wrong[source.randrange(len(days))] += source.choice((1, -1, diary.modulus, -diary.modulus, 10 ** 9))
            fault = fault_of(diary, wrong)
            if fault is not None:
                self.assert_no_calendar(*fault, diary, tuple(wrong))

    def test_many_events_are_checked_without_many_calls(self):
        # Calendars are asked for very often: a few calls for each event would take most of the time.
        for weekday in (0, None):
            diary = Diary(7, (weekday,) * 16, ((0, 1, 5),) * 48)
            self.assertLess(calls_of(is_calendar, diary, (0,) * 16), 50)
            self.assertLess(calls_of(check_calendar, diary, (0,) * 16), 50)

    def test_arguments_stay_as_they_were(self):
        days = [1, 4, 7]
        self.assert_fields(FORM, InvalidDays, check_calendar, DIARY, days)
        self.assertEqual(days, [1, 4, 7])
        self.assertEqual(DIARY, Diary(7, (1, None, 0), ((0, 1, 3), (1, 2, 4), (2, 0, -6))))


if __name__ == "__main__":
    unittest.main()
