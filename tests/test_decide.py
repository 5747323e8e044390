"""Points 12 to 15, 20 and 21: decisions."""

import random
import unittest

from tests.helpers import ProgramTestCase
from tests.samples import diary_of_days, has_negative_loop, is_possible, random_diary
from weekdaylegs.decisions import check_decision, decide, has_calendar
from weekdaylegs.diaries import Diary, is_calendar
from weekdaylegs.legs import Leg, Loop

DAYS = 10 ** 9


class DecideTestCase(ProgramTestCase):
    def assert_answer(self, diary, answer):
        """Check an answer by itself, without the program's own check, and return its kind."""
        self.assertIs(type(answer), tuple)
        kind, reason = answer
        self.assertIs(type(reason), tuple)
        if kind == "calendar":
            self.assertTrue(is_calendar(diary, reason))
        elif kind == "loop":
            self.assertLess(Loop(diary, *reason).total, 0)
        else:
            self.assertEqual(kind, "ring")
            self.assert_ring(diary, reason)
        return kind

    def assert_ring(self, diary, rows):
        for row in rows:
            self.assertIs(type(row), tuple)
        legs = [Leg(diary, *row) for row in rows]
        for before, leg in zip(legs[-1:] + legs, legs):
            self.assertEqual(before.stops[-1], leg.stops[0])
        self.assertLess(sum(leg.most() for leg in legs), 0)

    def decided(self, diary):
        """Return the kind of the answer to a diary, after all checks of the answer."""
        answer = decide(diary)
        kind = self.assert_answer(diary, answer)
        self.assertEqual(check_decision(diary, answer), kind)
        self.assertIs(has_calendar(diary), kind == "calendar")
        return kind


class SmallDiariesTest(DecideTestCase):
    def test_example_of_the_document(self):
        diary = Diary(7, (1, None, 0), ((0, 1, 3), (1, 2, 4), (2, 0, -7)))
        found = decide(diary)[0], check_decision(diary, ("ring", ((0, 1), (2,))))
        self.assertEqual(found, ("ring", "ring"))
        self.assertIs(has_calendar(diary), False)
        self.assertIs(has_calendar(diary.noting(2, None)), True)

    def test_arguments_by_name(self):
        diary = Diary.of(7, 3)
        self.assertEqual(decide(diary=diary)[0], "calendar")
        self.assertIs(has_calendar(diary=diary), True)

    def test_without_bounds(self):
        for modulus in (2, 7, 100):
            self.assertEqual(self.decided(Diary.of(modulus, None)), "calendar")
            self.assertEqual(self.decided(Diary.of(modulus, modulus - 1)), "calendar")
            self.assertEqual(self.decided(Diary.of(modulus, *[0, None, 1, None] * 4)), "calendar")

    def test_bounds_from_an_event_to_itself(self):
        for most, weekday, wanted in (
            (0, 3, "calendar"), (6, 3, "calendar"), (-1, 3, "ring"), (-7, 3, "ring"), (-DAYS, 3, "ring"),
            (0, None, "calendar"), (5, None, "calendar"), (-1, None, "loop"), (-DAYS, None, "loop"),
        ):
            self.assertEqual(self.decided(Diary(7, (weekday,), ((0, 0, most),))), wanted)
            self.assertEqual(self.decided(Diary(7, (0, weekday), ((0, 1, 9), (1, 1, most)))), wanted)

    def test_weekdays_alone_are_the_reason(self):
        bounds = ((0, 1, 2), (1, 0, -2))
        self.assertEqual(self.decided(Diary(7, (1, 3), bounds)), "calendar")
        self.assertEqual(self.decided(Diary(7, (1, 4), bounds)), "ring")
        self.assertEqual(self.decided(Diary(7, (1, None), bounds)), "calendar")

    def test_legs_that_come_back_to_an_event(self):
        # Only legs from 0 and from 1, both through 2, contradict the weekdays.
        diary = Diary(7, (0, 1, None), ((0, 2, 0), (2, 1, 0), (1, 2, 0), (2, 0, 0)))
        self.assertEqual(self.decided(diary), "ring")
        self.assertEqual([Leg(diary, *row).stops[1:-1] for row in decide(diary)[1]], [(2,), (2,)])
        self.assertEqual(self.decided(diary.noting(1, 0)), "calendar")

    def test_many_legs_through_one_event(self):
        # Seven dated events around one undated event: all on one day, or within six days.
        for slack, wanted in ((0, "ring"), (2, "ring"), (3, "calendar")):
            bounds = [(event, 7, slack) for event in range(7)] + [(7, event, slack) for event in range(7)]
            self.assertEqual(self.decided(Diary(7, (0, 1, 2, 3, 4, 5, 6, None), tuple(bounds))), wanted)

    def test_a_loop_comes_before_a_ring(self):
        ring = ((0, 0, -1),)
        self.assertEqual(self.decided(Diary(7, (3, None, None), ring)), "ring")
        for loop in (((1, 1, -1),), ((1, 2, 5), (2, 1, -6)), ((2, 1, 0), (1, 1, 3), (1, 2, -1))):
            self.assertEqual(self.decided(Diary(7, (3, None, None), ring + loop)), "loop")
            self.assertEqual(self.decided(Diary(7, (3, None, None), loop + ring)), "loop")

    def test_walks_through_a_dated_event_are_no_loops(self):
        bounds = ((0, 1, 2), (1, 0, -3))
        self.assertEqual(self.decided(Diary(7, (None, None), bounds)), "loop")
        self.assertEqual(self.decided(Diary(7, (None, 4), bounds)), "ring")
        self.assertEqual(self.decided(Diary(7, (4, None), bounds)), "ring")

    def test_nothing_is_changed(self):
        diary = Diary(7, (1, None, 0), ((0, 1, 3), (1, 2, 4), (2, 0, -7)))
        self.assertEqual(decide(diary), decide(diary))
        self.assertEqual(diary, Diary(7, (1, None, 0), ((0, 1, 3), (1, 2, 4), (2, 0, -7))))

    def test_against_all_ways_to_give_weekdays(self):
        source = random.Random(21)
        kinds = {"calendar": 0, "loop": 0, "ring": 0}
        for _ in range(4000):
            events = source.randint(1, 4)
            modulus = source.randint(2, 5)
            diary = random_diary(source, modulus, events, source.randint(0, 8), source.choice((1, 4, 12)))
            kind = self.decided(diary)
            self.assertIs(kind == "calendar", is_possible(diary))
            self.assertIs(kind == "loop", has_negative_loop(diary))
            kinds[kind] += 1
        self.assertGreater(min(kinds.values()), 300)

    def test_against_all_weekdays_of_a_week(self):
        source = random.Random(22)
        for _ in range(300):
            diary = random_diary(source, 7, 6, source.randint(4, 12), source.choice((3, 8)))
            if diary.weekdays.count(None) <= 3:
                self.assertIs(self.decided(diary) == "calendar", is_possible(diary))


class LargeDiariesTest(DecideTestCase):
    def test_known_calendars(self):
        source = random.Random(12)
        for _ in range(500):
            days = [source.randint(-500, 500) for _ in range(source.randint(1, 16))]
            slack = source.choice((0, 0, 1, 5, 100))
            diary = diary_of_days(source, source.randint(2, 100), days, source.randint(0, 60), slack)
            self.assertEqual(self.decided(diary), "calendar")

    def test_known_calendars_with_bounds_looser_by_many_million_days(self):
        source = random.Random(13)
        for _ in range(300):
            days = [source.randint(-10 ** 8, 10 ** 8) for _ in range(16)]
            diary = diary_of_days(source, source.randint(2, 100), days, 60, source.choice((0, 10 ** 7, 5 * 10 ** 8)))
            self.assertEqual(self.decided(diary), "calendar")

    def test_one_bound_of_known_calendars_is_too_tight(self):
        source = random.Random(14)
        for _ in range(500):
            days = [source.randint(-500, 500) for _ in range(16)]
            diary = diary_of_days(source, source.randint(2, 100), days, 57, source.choice((0, 5, 100)))
            first, last = source.randrange(16), source.randrange(16)
            gap = days[last] - days[first]
            diary = diary.between(first, last, least=gap + 1, most=gap)
            self.assertEqual(self.decided(diary), "loop" if has_negative_loop(diary) else "ring")

    def test_any_diaries(self):
        source = random.Random(15)
        for _ in range(1000):
            diary = random_diary(source, source.choice((2, 7, 100)), 16, source.randint(10, 60), 400)
            self.assertIs(self.decided(diary) == "loop", has_negative_loop(diary))

    def test_greatest_bounds(self):
        chain = [(event, event + 1, DAYS) for event in range(15)] + [(15, 0, -DAYS)]
        for noted in ((0,) * 16, (None,) * 16, (0, None) * 8, (None, 99) * 8):
            self.assertEqual(self.decided(Diary(100, noted, tuple(chain))), "calendar")
            opposite = [(first, last, -most) for first, last, most in chain]
            kind = self.decided(Diary(100, noted, tuple(opposite)))
            self.assertEqual(kind, "loop" if noted == (None,) * 16 else "ring")

    def test_loop_of_all_events(self):
        ones = tuple((event, event + 1, 1) for event in range(15))
        self.assertEqual(self.decided(Diary(7, (None,) * 16, ones + ((15, 0, -15),))), "calendar")
        self.assertEqual(self.decided(Diary(7, (None,) * 16, ones + ((15, 0, -16),))), "loop")

    def test_answers_are_short(self):
        source = random.Random(16)
        for _ in range(300):
            kind, reason = decide(random_diary(source, 100, 16, 60, 50))
            if kind == "loop":
                self.assertLessEqual(len(reason), 16)
            if kind == "ring":
                self.assertLessEqual(len(reason), 16)
                self.assertLessEqual(max(map(len, reason)), 16)


class DaysTest(DecideTestCase):
    def assert_days(self, diary):
        self.assertLessEqual(sum(abs(bound[2]) for bound in diary.bounds), 100000)
        kind, days = decide(diary)
        self.assertEqual(kind, "calendar")
        self.assertTrue(is_calendar(diary, days))
        self.assertLessEqual(max(map(abs, days)), DAYS)

    def test_days_are_not_far_away(self):
        source = random.Random(18)
        for _ in range(500):
            days = [source.randint(-800, 800) for _ in range(16)]
            self.assert_days(diary_of_days(source, source.randint(2, 100), days, 60, source.choice((0, 20))))

    def test_one_long_bound(self):
        for noted in ((0, 99), (None, 99), (0, None), (None, None)):
            for most in (100000, -100000):
                self.assert_days(Diary(100, noted, ((0, 1, most),)))
                self.assert_days(Diary(100, noted, ((1, 0, most),)))

    def test_long_chain(self):
        for noted in ((0, 99) * 8, (None,) * 16, (None, 50) * 8):
            for most in (6666, -6666):
                self.assert_days(Diary(100, noted, tuple((event, event + 1, most) for event in range(15))))
                self.assert_days(Diary(100, noted, tuple((event + 1, event, most) for event in range(15))))


if __name__ == "__main__":
    unittest.main()
