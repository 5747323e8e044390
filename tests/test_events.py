"""Point 10: the events of a diary as objects."""

import unittest

from tests.helpers import LONG, ProgramTestCase, no_integers
from weekdaylegs.diaries import DatedEvent, Diary, Event, UndatedEvent
from weekdaylegs.errors import InvalidNumber


def days_around(modulus):
    """Return days around 0, around the modulus, and far away on both sides."""
    near = list(range(-2 * modulus - 2, 2 * modulus + 3))
    return near + [LONG + day for day in range(5)] + [-LONG - day for day in range(5)]


class EventsTest(ProgramTestCase):
    def test_classes(self):
        self.assertEqual(DatedEvent.__bases__, (Event,))
        self.assertEqual(UndatedEvent.__bases__, (Event,))

    def test_is_dated(self):
        self.assertIs(DatedEvent.IS_DATED, True)
        self.assertIs(UndatedEvent.IS_DATED, False)
        self.assertIs(Diary.of(7, 0, None).event(0).IS_DATED, True)
        self.assertIs(Diary.of(7, 0, None).event(1).IS_DATED, False)

    def test_number_and_weekday(self):
        diary = Diary.of(100, 0, None, 99, 50)
        self.assertEqual([event.number for event in diary.events()], [0, 1, 2, 3])
        self.assertEqual([diary.event(number).weekday for number in (0, 2, 3)], [0, 99, 50])
        self.assertFalse(hasattr(diary.event(1), "weekday"))

    def test_dated_event(self):
        for modulus in (2, 3, 7, 100):
            for weekday in sorted({0, 1, modulus // 2, modulus - 1}):
                event = Diary.of(modulus, weekday).event(0)
                for day in days_around(modulus):
                    latest = day
                    while latest % modulus != weekday:
                        latest -= 1
                    self.assertEqual(event.latest(day), latest)
                    self.assertEqual(event.latest(day=day), latest)
                    self.assertIs(event.fits(day), day % modulus == weekday)
                    self.assertIs(event.fits(day=day), day % modulus == weekday)

    def test_undated_event(self):
        for modulus in (2, 7, 100):
            event = Diary.of(modulus, None).event(0)
            for day in days_around(modulus):
                self.assertEqual(event.latest(day), day)
                self.assertEqual(event.latest(day=day), day)
                self.assertIs(event.fits(day), True)

    def test_choices(self):
        for modulus in (2, 7, 100):
            diary = Diary.of(modulus, None, 0, modulus - 1)
            self.assertEqual(list(diary.event(0).choices()), list(range(modulus)))
            self.assertEqual(list(diary.event(1).choices()), [0])
            self.assertEqual(list(diary.event(2).choices()), [modulus - 1])

    def test_choices_are_yielded_one_by_one(self):
        choices = Diary.of(7, None).event(0).choices()
        self.assertEqual([next(choices), next(choices)], [0, 1])
        self.assertEqual(list(choices), [2, 3, 4, 5, 6])

    def test_no_integers_as_days(self):
        for event in Diary.of(7, 0, None).events():
            for value in no_integers():
                self.assert_value(InvalidNumber, event.latest, value, value)
                self.assert_value(InvalidNumber, event.latest, value, day=value)
                self.assert_value(InvalidNumber, event.fits, value, value)
                self.assert_value(InvalidNumber, event.fits, value, day=value)


if __name__ == "__main__":
    unittest.main()
