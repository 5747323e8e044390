"""Points 10 and 11: reading a diary."""

import unittest

from tests.helpers import LONG, ProgramTestCase, no_integers, other_values, odd_tuples, tower
from weekdaylegs.diaries import DatedEvent, Diary, Event, UndatedEvent
from weekdaylegs.errors import InvalidEvent

WEEKDAYS = (1, None, 0)
BOUNDS = ((0, 1, 3), (1, 2, 4), (2, 0, -7))


def diary():
    return Diary(7, WEEKDAYS, BOUNDS)


class ReadingTest(ProgramTestCase):
    def test_example_of_the_document(self):
        self.assertEqual(Diary.of(7, 1, None, 0).weekdays, WEEKDAYS)

    def test_properties(self):
        found = diary()
        self.assertEqual((found.modulus, found.weekdays, found.bounds, len(found)), (7, WEEKDAYS, BOUNDS, 3))
        self.assertIs(type(found.weekdays), tuple)
        self.assertIs(type(found.bounds), tuple)

    def test_what_is_read_stays_the_same(self):
        found = diary()
        other = Diary(9, (8,), ())
        for _ in range(3):
            self.assertEqual((found.modulus, found.weekdays, found.bounds, len(found)), (7, WEEKDAYS, BOUNDS, 3))
            self.assertEqual((other.modulus, other.weekdays, other.bounds, len(other)), (9, (8,), (), 1))
            self.assertEqual([event.number for event in found.events()], [0, 1, 2])

    def test_class_values_read_off_a_diary(self):
        found = diary()
        self.assertEqual((found.MAX_MODULUS, found.MAX_EVENTS, found.MAX_BOUNDS, found.MAX_DAYS), Diary.limits())

    def test_len(self):
        for many in range(1, 17):
            self.assertEqual(len(Diary.of(7, *[None] * many)), many)

    def test_need_event(self):
        for number in range(3):
            self.assertIsNone(diary().need_event(number))
            self.assertIsNone(diary().need_event(event=number))
        for value in [-1, 3, LONG, -LONG] + no_integers():
            self.assert_value(InvalidEvent, diary().need_event, value, value)
            self.assert_value(InvalidEvent, diary().need_event, value, event=value)

    def test_equal(self):
        self.assertTrue(diary() == diary())
        self.assertFalse(diary() != diary())
        self.assertTrue(Diary.of(7, *WEEKDAYS).adding(*BOUNDS) == diary())

    def test_unequal_diaries(self):
        others = [
            Diary(8, WEEKDAYS, BOUNDS),
            Diary(7, (2, None, 0), BOUNDS),
            Diary(7, (1, 0, 0), BOUNDS),
            Diary(7, (1, None, None), BOUNDS),
            Diary(7, WEEKDAYS + (None,), BOUNDS),
            Diary(7, WEEKDAYS, ()),
            Diary(7, WEEKDAYS, BOUNDS[:2]),
            Diary(7, WEEKDAYS, BOUNDS + BOUNDS[:1]),
            Diary(7, WEEKDAYS, BOUNDS[::-1]),
            Diary(7, WEEKDAYS, ((1, 1, 3),) + BOUNDS[1:]),
            Diary(7, WEEKDAYS, ((0, 2, 3),) + BOUNDS[1:]),
            Diary(7, WEEKDAYS, ((0, 1, 2),) + BOUNDS[1:]),
            Diary(7, WEEKDAYS, BOUNDS[:2] + ((2, 0, 7),)),
        ]
        for other in others:
            self.assertFalse(diary() == other)
            self.assertTrue(diary() != other)
            self.assertFalse(other == diary())

    def test_not_equal_to_other_values(self):
        found = diary()
        values = [None, 0, 7, (7, WEEKDAYS, BOUNDS), WEEKDAYS, BOUNDS, tower(())] + other_values() + odd_tuples()
        for value in values + [found.event(0), found.event(1)]:
            if isinstance(value, Diary):
                continue
            self.assertIs(found == value, False)
            self.assertIs(found != value, True)


class EventsOfDiaryTest(ProgramTestCase):
    def test_event(self):
        for number in range(3):
            for event in (diary().event(number), diary().event(number=number)):
                self.assertIs(type(event), UndatedEvent if number == 1 else DatedEvent)
                self.assertIsInstance(event, Event)
                self.assertEqual(event.number, number)

    def test_event_errors(self):
        for value in [-1, 3, LONG, -LONG] + no_integers():
            self.assert_value(InvalidEvent, diary().event, value, value)
            self.assert_value(InvalidEvent, diary().event, value, number=value)

    def test_events(self):
        found = list(diary().events())
        self.assertEqual([type(event) for event in found], [DatedEvent, UndatedEvent, DatedEvent])
        self.assertEqual([event.number for event in found], [0, 1, 2])
        self.assertEqual([found[0].weekday, found[2].weekday], [1, 0])

    def test_events_are_yielded_one_by_one(self):
        events = Diary.of(7, *[None] * 16).events()
        self.assertEqual([next(events).number, next(events).number], [0, 1])
        self.assertEqual([event.number for event in events], list(range(2, 16)))
        self.assertIsNone(next(events, None))


if __name__ == "__main__":
    unittest.main()
