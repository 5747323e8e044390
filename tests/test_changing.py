"""Points 10, 11 and 25: diaries that are made from another one."""

import random
import unittest

from tests.helpers import LONG, ProgramTestCase, no_integers, other_values, odd_tuples, tower
from weekdaylegs.diaries import Diary, is_calendar
from weekdaylegs.errors import InvalidDiary, InvalidEvent, InvalidNumber

DAYS = 10 ** 9
WEEKDAYS = (1, None, 0)
BOUNDS = ((0, 1, 3), (1, 2, 4))


def diary(many=2):
    """Return a diary with so many bounds."""
    return Diary(7, WEEKDAYS, (BOUNDS * 30)[:many])


class ChangingTestCase(ProgramTestCase):
    def setUp(self):
        super().setUp()
        self.old = diary()

    def tearDown(self):
        self.assertEqual((self.old.modulus, self.old.weekdays, self.old.bounds), (7, WEEKDAYS, BOUNDS))


class AddingTest(ChangingTestCase):
    def test_adding(self):
        self.assertEqual(self.old.adding(), self.old)
        self.assertEqual(self.old.adding((2, 0, -6)).bounds, BOUNDS + ((2, 0, -6),))
        self.assertEqual(self.old.adding((2, 0, -6), (0, 0, 0)).bounds, BOUNDS + ((2, 0, -6), (0, 0, 0)))
        self.assertEqual((self.old.adding((2, 0, 1)).modulus, self.old.adding((2, 0, 1)).weekdays), (7, WEEKDAYS))

    def test_items_are_counted_in_the_new_diary(self):
        for value in [None, 0, (0, 0), (0, 3, 0), (-1, 0, 0), (0, 0, True), [0, 0, 0], (0, 0, DAYS + 1), tower(0)]:
            self.assert_fields({"part": "bounds", "item": 2}, InvalidDiary, self.old.adding, value)
            self.assert_fields({"part": "bounds", "item": 3}, InvalidDiary, self.old.adding, (0, 0, 0), value, value)
        for value in other_values() + odd_tuples():
            self.assert_fields({"part": "bounds", "item": 2}, InvalidDiary, self.old.adding, value, (0, 0, 0))

    def test_number_of_bounds(self):
        added = [(2, 2, 5), (2, 2, 6), (2, 2, 7)]
        for many in (57, 58, 59, 60):
            free = 60 - many
            self.assertEqual(len(diary(many).adding(*added[:free]).bounds), 60)
            wrong = added[:free] + [(2, 2, 8)]
            self.assert_fields({"part": "bounds", "item": None}, InvalidDiary, diary(many).adding, *wrong)
        self.assert_fields({"part": "bounds", "item": None}, InvalidDiary, diary(60).adding, None)


class NotingTest(ChangingTestCase):
    def test_noting(self):
        self.assertEqual(self.old.noting(0, 6), Diary(7, (6, None, 0), BOUNDS))
        self.assertEqual(self.old.noting(1, 0), Diary(7, (1, 0, 0), BOUNDS))
        self.assertEqual(self.old.noting(weekday=None, event=2), Diary(7, (1, None, None), BOUNDS))
        self.assertEqual(self.old.noting(0, 1), self.old)
        self.assertEqual(self.old.noting(1, None), self.old)

    def test_wrong_events(self):
        for value in [-1, 3, LONG, -LONG] + no_integers():
            for weekday in (0, None, 7, "x", tower(0)):
                self.assert_value(InvalidEvent, self.old.noting, value, value, weekday)
            self.assert_value(InvalidEvent, self.old.noting, value, event=value, weekday=0)

    def test_wrong_weekdays(self):
        for value in [-1, 7, LONG, -LONG] + other_values() + odd_tuples():
            for event in range(3):
                self.assert_fields({"part": "weekdays", "item": event}, InvalidDiary, self.old.noting, event, value)


class BetweenTest(ChangingTestCase):
    def test_between(self):
        self.assertEqual(self.old.between(0, 2), self.old)
        self.assertEqual(self.old.between(0, 2, least=6).bounds, BOUNDS + ((2, 0, -6),))
        self.assertEqual(self.old.between(0, 2, most=8).bounds, BOUNDS + ((0, 2, 8),))
        self.assertEqual(self.old.between(0, 2, most=8, least=6).bounds, BOUNDS + ((2, 0, -6), (0, 2, 8)))
        self.assertEqual(self.old.between(second=0, first=2, least=0, most=0).bounds, BOUNDS + ((0, 2, 0), (2, 0, 0)))
        self.assertEqual(self.old.between(0, 2, least=None, most=None), self.old)

    def test_two_equal_events(self):
        self.assertEqual(self.old.between(1, 1, least=-2, most=3).bounds, BOUNDS + ((1, 1, 2), (1, 1, 3)))

    def test_greatest_and_least_days(self):
        self.assertEqual(self.old.between(0, 1, least=DAYS, most=DAYS).bounds, BOUNDS + ((1, 0, -DAYS), (0, 1, DAYS)))
        self.assertEqual(self.old.between(0, 1, least=-DAYS, most=-DAYS).bounds, BOUNDS + ((1, 0, DAYS), (0, 1, -DAYS)))

    def test_least_beyond_most(self):
        self.assertEqual(self.old.between(0, 1, least=5, most=2).bounds, BOUNDS + ((1, 0, -5), (0, 1, 2)))

    def test_wrong_events(self):
        for value in [-1, 3, LONG, -LONG] + no_integers():
            self.assert_value(InvalidEvent, self.old.between, value, value, 0)
            self.assert_value(InvalidEvent, self.old.between, value, value, "x", least="x", most="x")
            self.assert_value(InvalidEvent, self.old.between, value, 0, value)
            self.assert_value(InvalidEvent, self.old.between, value, second=value, first=0, least="x", most="x")

    def test_wrong_days(self):
        wrong = [DAYS + 1, -DAYS - 1, LONG, -LONG] + other_values() + odd_tuples()
        for value in wrong:
            self.assert_value(InvalidNumber, self.old.between, value, 0, 1, least=value)
            self.assert_value(InvalidNumber, self.old.between, value, 0, 1, most=value)
            self.assert_value(InvalidNumber, self.old.between, value, 0, 1, least=value, most="x")
            self.assert_value(InvalidNumber, self.old.between, value, 0, 1, least=0, most=value)
            self.assert_value(InvalidNumber, diary(60).between, value, 0, 1, most=value)

    def test_number_of_bounds(self):
        full = {"part": "bounds", "item": None}
        self.assertEqual(len(diary(58).between(0, 1, least=0, most=0).bounds), 60)
        self.assertEqual(len(diary(59).between(0, 1, least=0).bounds), 60)
        self.assertEqual(len(diary(59).between(0, 1, most=0).bounds), 60)
        self.assertEqual(diary(60).between(0, 1), diary(60))
        self.assert_fields(full, InvalidDiary, diary(59).between, 0, 1, least=0, most=0)
        self.assert_fields(full, InvalidDiary, diary(60).between, 0, 1, least=0)
        self.assert_fields(full, InvalidDiary, diary(60).between, 0, 1, most=0)

    def test_days_stand_by_name_only(self):
        with self.assertRaises(TypeError):
            self.old.between(0, 1, 2, 3)


class MirroredAndShiftedTest(ChangingTestCase):
    def test_mirrored(self):
        self.assertEqual(self.old.mirrored(), Diary(7, (6, None, 0), ((1, 0, 3), (2, 1, 4))))
        self.assertEqual(Diary.of(100, 0, 1, 50, 99, None).mirrored(), Diary.of(100, 0, 99, 50, 1, None))
        self.assertEqual(self.old.mirrored().mirrored(), self.old)

    def test_shifted(self):
        self.assertEqual(self.old.shifted(1), Diary(7, (2, None, 1), BOUNDS))
        self.assertEqual(self.old.shifted(days=-2), Diary(7, (6, None, 5), BOUNDS))
        for days in (0, 7, -7, 7 * LONG, -7 * LONG):
            self.assertEqual(self.old.shifted(days), self.old)

    def test_shifted_there_and_back(self):
        for days in (1, -1, 6, 8, 10 ** 12, LONG - 1, -LONG, LONG * 10 - 1):
            self.assertEqual(self.old.shifted(days).weekdays, ((1 + days) % 7, None, days % 7))
            self.assertEqual(self.old.shifted(days).bounds, BOUNDS)
            self.assertEqual(self.old.shifted(days).shifted(-days), self.old)

    def test_wrong_days(self):
        for value in no_integers():
            self.assert_value(InvalidNumber, self.old.shifted, value, value)
            self.assert_value(InvalidNumber, self.old.shifted, value, days=value)

    def test_calendars_become_calendars(self):
        source = random.Random(25)
        for _ in range(200):
            modulus = source.randint(2, 100)
            days = tuple(source.randint(-200, 200) for _ in range(4))
            noted = tuple(source.choice((day % modulus, None)) for day in days)
            ends = [(source.randrange(4), source.randrange(4)) for _ in range(6)]
            found = Diary(modulus, noted, tuple((a, b, days[b] - days[a]) for a, b in ends))
            by = source.randint(-300, 300)
            self.assertTrue(is_calendar(found.mirrored(), tuple(-day for day in days)))
            self.assertTrue(is_calendar(found.shifted(by), tuple(day + by for day in days)))


if __name__ == "__main__":
    unittest.main()
