"""Points 1, 3, 4, 10 and 11: making a diary."""

import unittest

from tests.helpers import LONG, Odd, ProgramTestCase, no_integers, other_values, odd_tuples, tower
from weekdaylegs.diaries import Diary
from weekdaylegs.errors import InvalidDiary

DAYS = 10 ** 9
WEEKDAYS = (1, None, 0)
BOUNDS = ((0, 1, 3), (1, 2, 4), (2, 2, -7))


def no_bounds():
    """Return values that are no bounds of a diary with three events."""
    return [
        None, 0, "001", [0, 1, 2], (), (0, 1), (0, 1, 2, 3), (-1, 0, 0), (0, -1, 0), (3, 0, 0), (0, 3, 0),
        (0, 1, DAYS + 1), (0, 1, -DAYS - 1), (0, 1, LONG), (0, 1, -LONG), (LONG, 0, 0), (0, -LONG, 0),
        (None, 0, 0), (0, None, 0), (0, 0, None), (True, 0, 0), (0, False, 0), (0, 0, True), ("0", 0, 0),
        (0, (0,), 0), (0, 0, [0]), (tower(0), 0, 0), (0, tower(0), 0), (0, 0, tower(0)), tower(0), (Odd(), 0, 0),
        (0, Odd(), 0), (0, 0, Odd()), Odd(), {0: 0, 1: 0, 2: 0}, {0, 1, 2}, range(3), True,
    ]


class MakingTest(ProgramTestCase):
    def assert_no_diary(self, part, item, modulus, weekdays, bounds):
        """Check that these values are no diary, with this part and item."""
        for named in (False, True):
            if named:
                error = self.error(InvalidDiary, Diary, bounds=bounds, weekdays=weekdays, modulus=modulus)
                self.assertIs(Diary.is_diary(bounds=bounds, weekdays=weekdays, modulus=modulus), False)
            else:
                error = self.error(InvalidDiary, Diary, modulus, weekdays, bounds)
                self.assertIs(Diary.is_diary(modulus, weekdays, bounds), False)
            self.assertEqual((error.part, error.item), (part, item))

    def assert_diary(self, modulus, weekdays, bounds):
        """Check that these values are a diary."""
        diary = Diary(modulus, weekdays, bounds)
        self.assertEqual((diary.modulus, diary.weekdays, diary.bounds), (modulus, weekdays, bounds))
        self.assertIs(Diary.is_diary(modulus, weekdays, bounds), True)

    def test_ordinary_diaries(self):
        self.assert_diary(7, WEEKDAYS, BOUNDS)
        self.assert_diary(7, (None,), ())
        self.assert_diary(12, (11, 11, None, 0), ((3, 3, 0), (3, 3, 0), (0, 3, -5)))

    def test_class_values_and_limits(self):
        self.assertEqual((Diary.MAX_MODULUS, Diary.MAX_EVENTS, Diary.MAX_BOUNDS, Diary.MAX_DAYS), (100, 16, 60, DAYS))
        self.assertEqual(Diary.limits(), (100, 16, 60, DAYS))

    def test_modulus(self):
        self.assert_diary(2, (0, 1), ())
        self.assert_diary(100, (0, 99), ())
        for modulus in [1, 0, -7, 101, LONG, -LONG] + no_integers():
            self.assert_no_diary("modulus", None, modulus, WEEKDAYS, BOUNDS)

    def test_number_of_events(self):
        self.assert_diary(7, (None,) * 16, ((15, 0, 1),))
        self.assert_no_diary("weekdays", None, 7, (), ())
        self.assert_no_diary("weekdays", None, 7, (None,) * 17, ())
        self.assert_no_diary("weekdays", None, 7, (None,) * 100000, ())

    def test_weekdays_of_another_kind(self):
        for weekdays in [None, 0, 3, LONG, [1, None, 0], [0], ["weekdays"]] + other_values():
            self.assert_no_diary("weekdays", None, 7, weekdays, ())

    def test_weekdays(self):
        for modulus in (2, 7, 100):
            self.assert_diary(modulus, (0, modulus - 1, None), ())
            for weekday in [-1, modulus, LONG, -LONG] + other_values() + odd_tuples():
                self.assert_no_diary("weekdays", 0, modulus, (weekday,), ())
                self.assert_no_diary("weekdays", 2, modulus, (1, None, weekday), ())
                self.assert_no_diary("weekdays", 15, modulus, (None,) * 15 + (weekday,), ())

    def test_first_wrong_weekday(self):
        self.assert_no_diary("weekdays", 1, 7, (0, 7, None, -1, True), ())
        self.assert_no_diary("weekdays", 2, 7, (0, 6, True, 7), ())

    def test_number_of_bounds(self):
        self.assert_diary(7, WEEKDAYS, ())
        self.assert_diary(7, WEEKDAYS, BOUNDS * 20)
        self.assert_no_diary("bounds", None, 7, WEEKDAYS, BOUNDS * 20 + BOUNDS[:1])
        self.assert_no_diary("bounds", None, 7, WEEKDAYS, (None,) * 61)
        self.assert_no_diary("bounds", None, 7, WEEKDAYS, BOUNDS * 100000)

    def test_bounds_of_another_kind(self):
        for bounds in [None, 0, LONG, list(BOUNDS), dict.fromkeys(BOUNDS), set(BOUNDS)] + other_values():
            self.assert_no_diary("bounds", None, 7, WEEKDAYS, bounds)

    def test_bounds(self):
        for most in (DAYS, -DAYS, 0, 1, -1):
            self.assert_diary(7, WEEKDAYS, ((0, 2, most), (2, 0, -most), (1, 1, most)))

    def test_no_bounds(self):
        for bound in no_bounds():
            self.assert_no_diary("bounds", 0, 7, WEEKDAYS, (bound,))
            self.assert_no_diary("bounds", 3, 7, WEEKDAYS, BOUNDS + (bound,) + BOUNDS)
            self.assert_no_diary("bounds", 59, 7, WEEKDAYS, BOUNDS * 19 + BOUNDS[:2] + (bound,))
            self.assert_no_diary("bounds", 1, 7, WEEKDAYS, BOUNDS[:1] + (bound, None, bound))

    def test_bounds_with_very_many_parts(self):
        for bounds in odd_tuples():
            if bounds:
                self.assert_no_diary("bounds", 0, 7, WEEKDAYS, bounds)

    def test_two_conditions_broken_at_once(self):
        self.assert_no_diary("modulus", None, 1, (), ())
        self.assert_no_diary("modulus", None, None, [], [])
        self.assert_no_diary("modulus", None, True, (7,), (0,))
        self.assert_no_diary("modulus", None, tower(0), tower(0), tower(0))
        self.assert_no_diary("weekdays", None, 7, (), None)
        self.assert_no_diary("weekdays", None, 7, (8,) * 17, None)
        self.assert_no_diary("weekdays", None, 7, [8], ((0, 0),))
        self.assert_no_diary("weekdays", 0, 7, (7,), None)
        self.assert_no_diary("weekdays", 1, 7, (0, False), ((2, 2, 2),))
        self.assert_no_diary("bounds", 0, 7, (0, 1), ((2, 0, 0), (0, 0, True)))

    def test_arguments_stay_as_they_were(self):
        weekdays, bound, bounds = [1, None], [0, 1, 3], [[0, 1, 3]]
        self.error(InvalidDiary, Diary, 7, weekdays, bounds)
        self.error(InvalidDiary, Diary, 7, (1, None), bounds)
        self.error(InvalidDiary, Diary, 7, (1, None), (bound,))
        self.error(InvalidDiary, Diary.of, 7, weekdays)
        self.assertEqual((weekdays, bound, bounds), ([1, None], [0, 1, 3], [[0, 1, 3]]))


class OfTest(ProgramTestCase):
    def test_of(self):
        self.assertEqual(Diary.of(7, 1, None, 0), Diary(7, WEEKDAYS, ()))
        self.assertEqual(Diary.of(100, *[99] * 16), Diary(100, (99,) * 16, ()))
        self.assertIs(type(Diary.of(2, None)), Diary)

    def test_errors_of_of(self):
        for modulus in [1, 101, LONG, -LONG] + no_integers():
            self.assert_fields({"part": "modulus", "item": None}, InvalidDiary, Diary.of, modulus, 9)
        self.assert_fields({"part": "modulus", "item": None}, InvalidDiary, Diary.of, modulus="7")
        self.assert_fields({"part": "weekdays", "item": None}, InvalidDiary, Diary.of, modulus=7)
        self.assert_fields({"part": "weekdays", "item": None}, InvalidDiary, Diary.of, 7, *[8] * 17)
        for weekday in [-1, 7, LONG, -LONG] + other_values() + odd_tuples():
            self.assert_fields({"part": "weekdays", "item": 2}, InvalidDiary, Diary.of, 7, 6, None, weekday, 7)

    def test_static_and_class_methods_called_on_a_diary(self):
        diary = Diary(5, (4,), ())
        self.assertEqual(diary.of(7, 1, None, 0), Diary(7, WEEKDAYS, ()))
        self.assertEqual(diary.limits(), Diary.limits())
        self.assertIs(diary.is_diary(7, WEEKDAYS, BOUNDS), True)
        self.assertIs(diary.is_diary(7, WEEKDAYS, (BOUNDS,)), False)
        self.assert_fields({"part": "weekdays", "item": 0}, InvalidDiary, diary.of, 7, 7)
        self.assertEqual(diary, Diary(5, (4,), ()))


if __name__ == "__main__":
    unittest.main()
