"""Points 25, 31 and 32: corrections and removals."""

import random
import unittest

from tests.gap_cases import DIARY, LOOP, RING
from tests.helpers import ProgramTestCase
from tests.samples import diary_of_days, has_negative_loop, is_possible, random_diary
from weekdaylegs.corrections import corrections, removals
from weekdaylegs.decisions import decide, has_calendar
from weekdaylegs.diaries import Diary


def without(diary, number):
    return Diary(diary.modulus, diary.weekdays, diary.bounds[:number] + diary.bounds[number + 1:])


def all_corrections(diary, test):
    """Return the corrections, by a test of all other weekdays of all dated events."""
    if test(diary):
        return ()
    found = []
    for event, own in enumerate(diary.weekdays):
        for weekday in [None, *range(diary.modulus)]:
            if own is not None and weekday != own and test(diary.noting(event, weekday)):
                found.append((event, weekday))
    return tuple(found)


def all_removals(diary, test):
    """Return the removals, by a test without each bound."""
    if test(diary):
        return ()
    return tuple(number for number in range(len(diary.bounds)) if test(without(diary, number)))


def wrong_diary(source, modulus, events, many):
    """Return a diary without a calendar in which only few notes and bounds are wrong."""
    while True:
        days = [source.randint(-300, 300) for _ in range(events)]
        diary = diary_of_days(source, modulus, days, many, source.choice((0, 3, 50)))
        event, first, last = source.randrange(events), source.randrange(events), source.randrange(events)
        if source.random() < 0.6 and diary.weekdays[event] is not None:
            diary = diary.noting(event, source.randrange(modulus))
        else:
            diary = diary.between(first, last, most=days[last] - days[first] - source.randint(1, 9))
        if not has_calendar(diary):
            return diary


class CorrectionsTest(ProgramTestCase):
    def test_example_of_the_document(self):
        self.assertEqual((corrections(RING), removals(RING)), (((0, None), (0, 0), (2, None), (2, 1)), (0, 1, 2)))
        self.assertEqual((corrections(diary=RING), removals(diary=RING)), (corrections(RING), removals(RING)))

    def test_a_diary_with_a_calendar(self):
        for diary in (DIARY, Diary.of(7, 1, None), Diary.of(2, 0)):
            self.assertEqual((corrections(diary), removals(diary)), ((), ()))

    def test_a_negative_loop(self):
        self.assertEqual((corrections(LOOP), removals(LOOP)), ((), ()))
        loop = Diary(7, (1, None, None), ((1, 2, 3), (2, 1, -4), (0, 1, 0)))
        self.assertEqual((corrections(loop), removals(loop)), ((), (0, 1)))
        self.assertEqual(removals(Diary(7, (None,), ((0, 0, 0), (0, 0, -1)))), (1,))

    def test_a_bound_from_an_event_to_itself(self):
        # Also undated, the event would have a loop with a negative sum.
        self.assertEqual(corrections(Diary(7, (1,), ((0, 0, -1),))), ())
        self.assertEqual(removals(Diary(7, (1,), ((0, 0, -1),))), (0,))

    def test_none_alone(self):
        # No weekday of event 1 agrees with event 0 and with event 2, which are a day apart.
        bounds = ((0, 1, 0), (1, 0, 0), (1, 2, 0), (2, 1, 0))
        self.assertEqual(corrections(Diary(7, (1, 5, 2), bounds)), ())
        self.assertEqual(corrections(Diary(7, (1, 5, 1), bounds)), ((1, None), (1, 1)))
        self.assertEqual(corrections(Diary(7, (1, 1, 2), bounds)), ((2, None), (2, 1)))
        self.assertEqual(corrections(Diary(7, (1, 2), bounds[:2])), ((0, None), (0, 2), (1, None), (1, 1)))

    def test_two_separate_faults(self):
        bounds = ((0, 1, 0), (1, 0, 0), (2, 3, 0), (3, 2, 0))
        self.assertEqual((corrections(Diary(7, (1, 2, 3, 4), bounds)), removals(Diary(7, (1, 2, 3, 4), bounds))), ((), ()))
        self.assertEqual(removals(Diary(7, (1, 2, 4, 4), bounds)), (0, 1))

    def test_the_same_bound_twice(self):
        self.assertEqual(removals(Diary(7, (1, 2), ((0, 1, 0), (1, 0, 0), (0, 1, 0)))), (1,))
        self.assertEqual(removals(Diary(7, (1, 2), ((0, 1, 0), (1, 0, 0), (0, 1, 0), (1, 0, 0)))), ())
        self.assertEqual(removals(Diary(7, (1, 2), ((0, 1, 0), (1, 0, 0), (0, 1, 1)))), (0, 1))

    def test_all_weekdays(self):
        diary = Diary(4, (1, 1), ((0, 1, 3), (1, 0, -1)))
        self.assertEqual(corrections(diary), ((0, None), (0, 0), (0, 2), (0, 3), (1, None), (1, 0), (1, 2), (1, 3)))

    def test_against_all_ways_to_give_weekdays(self):
        source = random.Random(61)
        found = {"correction": 0, "removal": 0, "neither": 0}
        for _ in range(600):
            modulus, events, many = source.randint(2, 4), source.randint(1, 4), source.randint(1, 6)
            if source.random() < 0.5:
                diary = random_diary(source, modulus, events, many, source.choice((1, 4)))
            else:
                diary = wrong_diary(source, modulus, events, many)
            wanted = all_corrections(diary, is_possible), all_removals(diary, is_possible)
            self.assertEqual((corrections(diary), removals(diary)), wanted)
            if not is_possible(diary):
                found["correction"] += wanted[0] != ()
                found["removal"] += wanted[1] != ()
                found["neither"] += wanted == ((), ())
            if has_negative_loop(diary):
                self.assertEqual(corrections(diary), ())
        self.assertGreater(min(found.values()), 10)

    def test_large_diaries(self):
        source = random.Random(62)
        some = 0
        for _ in range(60):
            diary = wrong_diary(source, source.choice((2, 7, 20)), 16, source.randint(15, 58))
            found = corrections(diary), removals(diary)
            self.assertEqual(found, (all_corrections(diary, has_calendar), all_removals(diary, has_calendar)))
            self.assertEqual((type(found[0]), type(found[1])), (tuple, tuple))
            some += found[0] != () and found[1] != ()
        self.assertGreater(some, 5)

    def test_greatest_modulus_and_bounds(self):
        far = 10 ** 9
        diary = Diary(100, (0, 50), ((0, 1, far), (1, 0, -far)))
        self.assertEqual(corrections(diary), ((0, None), (0, 50), (1, None), (1, 0)))
        self.assertEqual(removals(diary), (0, 1))

    def test_mirrored_and_shifted_diaries(self):
        source = random.Random(63)
        for _ in range(40):
            modulus = source.choice((2, 7, 30))
            diary = wrong_diary(source, modulus, source.randint(2, 16), source.randint(5, 50))
            found, numbers, days = corrections(diary), removals(diary), source.randint(-100, 100)
            self.assertEqual(removals(diary.mirrored()), numbers)
            self.assertEqual(removals(diary.shifted(days)), numbers)
            for other, turn, shift in ((diary.mirrored(), -1, 0), (diary.shifted(days), 1, days)):
                moved = [(event, -1 if weekday is None else (turn * weekday + shift) % modulus) for event, weekday in found]
                wanted = tuple((event, None if weekday < 0 else weekday) for event, weekday in sorted(moved))
                self.assertEqual(corrections(other), wanted)

    def test_fact_of_corrections(self):
        source = random.Random(64)
        for _ in range(60):
            diary = wrong_diary(source, 7, source.randint(2, 16), source.randint(5, 50))
            kind, reason = decide(diary)
            found, numbers = corrections(diary), removals(diary)
            rows = reason if kind == "ring" else (reason,)
            used = {number for row in rows for number in row}
            self.assertLessEqual(set(numbers), used)
            if kind == "ring":
                starts = {diary.bounds[row[0]][0] for row in rows}
                self.assertLessEqual({event for event, _ in found}, starts)
            for event, weekday in found:
                self.assertIn((event, None), found)
                self.assertNotEqual(weekday, diary.weekdays[event])

    def test_arguments_stay_as_they_were(self):
        corrections(RING), removals(RING)
        self.assertEqual(RING, Diary(7, (1, None, 0), ((0, 1, 3), (1, 2, 4), (2, 0, -7))))


if __name__ == "__main__":
    unittest.main()
