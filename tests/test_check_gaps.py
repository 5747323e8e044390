"""Points 16, 20, 22 and 23: checking the answers of greatest_gap and least_gap."""

import random
import unittest

from tests.gap_cases import DIARY, LOOP, RING, GapTestCase
from tests.helpers import LONG, Odd, no_integers, other_values, odd_tuples, tower
from tests.samples import large_diaries
from weekdaylegs.diaries import Diary
from weekdaylegs.errors import InvalidAnswer, InvalidEvent
from weekdaylegs.gaps import check_greatest, check_least, greatest_gap, least_gap

CHECKS = ((check_greatest, "most"), (check_least, "least"))
# Event 3 has no bounds. Events 1 and 4 are undated; 4 has a zero loop.
WIDE = Diary(7, (1, None, 0, 5, None), DIARY.bounds + ((0, 4, 2), (4, 2, 4), (4, 4, 0), (0, 2, 13), (2, 2, 6)))
HIGH = ("most", 6, (1, 4, 7, 5, 3), ((0, 1),), ())
LOW = ("least", 2, (1, 3, 7, 5, 3), ((2,),), (1,))


class CheckTestCase(GapTestCase):
    def assert_right(self, check, diary, first, second, answer):
        wanted = None if answer[0] == "open" else answer[1]
        self.assertEqual(check(diary, first, second, answer), wanted)
        self.assertEqual(check(answer=answer, second=second, first=first, diary=diary), wanted)

    def assert_wrong(self, part, check, diary, first, second, answer):
        fields = {"part": part}
        self.assert_fields(fields, InvalidAnswer, check, diary, first, second, answer)
        self.assert_fields(fields, InvalidAnswer, check, answer=answer, second=second, first=first, diary=diary)


class FormTest(CheckTestCase):
    def test_other_shapes(self):
        values = [None, 0, LONG, "open", "most", (), ("open",), ("open", (0,), ()), ["open", (0,)], list(HIGH), list(LOW),
                  HIGH[:4], LOW[:4], HIGH + ((),), LOW + ((),), HIGH[1:], LOW[1:], (HIGH,), (LOW,)]
        for answer in values + other_values() + odd_tuples():
            for check, _ in CHECKS:
                self.assert_wrong("form", check, WIDE, 0, 2, answer)

    def test_word_of_the_other_function(self):
        self.assert_right(check_greatest, WIDE, 0, 2, HIGH)
        self.assert_right(check_least, WIDE, 0, 1, LOW)
        self.assert_wrong("form", check_least, WIDE, 0, 2, HIGH)
        self.assert_wrong("form", check_greatest, WIDE, 0, 1, LOW)

    def test_other_words(self):
        words = ["Most", "most ", "", "calendar", "ring", "form", b"most", ("most",), ["least"], LONG, Odd()]
        for word in words + no_integers():
            for check, known in CHECKS:
                self.assert_wrong("form", check, WIDE, 0, 2, (word, (0,)))
                if not isinstance(word, str) or word != known:
                    self.assert_wrong("form", check, WIDE, 0, 2, (word,) + HIGH[1:])

    def test_words_beside_another_number_of_items(self):
        for check, word in CHECKS:
            self.assert_wrong("form", check, WIDE, 0, 3, (word, (0,)))
            self.assert_wrong("form", check, WIDE, 0, 3, ("open",) + HIGH[1:])
            self.assert_wrong("form", check, WIDE, 0, 3, ("open", tower(0), tower(0)))

    def test_form_is_wrong_ahead_of_all_else(self):
        for check, _ in CHECKS:
            self.assert_wrong("form", check, WIDE, 0, 2, ["open", [0]])
            self.assert_wrong("form", check, WIDE, 0, 2, ["most", True, [], [], []])


class OpenTest(CheckTestCase):
    # Bounds lead from 0 over 1 to 2 and back to 1, and from 3 to 0.
    CHAIN = Diary(7, (0, None, 2, None, None), ((0, 1, 5), (1, 2, 5), (2, 1, 9), (3, 0, 1)))

    def test_right(self):
        for events in ((0, 1, 2), (0, 1, 2, 4)):
            self.assert_right(check_greatest, self.CHAIN, 0, 3, ("open", events))
        for events in ((0, 3), (0, 3, 4)):
            self.assert_right(check_least, self.CHAIN, 0, 2, ("open", events))
        for events in ((0,), (0, 3), (0, 3, 4)):
            self.assert_right(check_least, Diary(7, self.CHAIN.weekdays, self.CHAIN.bounds[:3]), 0, 1, ("open", events))

    def test_a_bound_leads_on(self):
        for events in ((0,), (0, 1), (0, 2), (0, 4)):
            self.assert_wrong("open", check_greatest, self.CHAIN, 0, 3, ("open", events))
        for events in ((0,), (0, 1, 3), (0, 4), (0, 1, 3, 4)):
            self.assert_wrong("open", check_least, self.CHAIN, 0, 2, ("open", events))

    def test_bounds_the_other_way_are_no_matter(self):
        self.assert_wrong("open", check_least, self.CHAIN, 0, 3, ("open", (0, 1, 2)))
        self.assert_wrong("open", check_greatest, self.CHAIN, 0, 2, ("open", (0, 3)))

    def test_first_is_missing_or_second_is_there(self):
        for check, _ in CHECKS:
            self.assert_wrong("open", check, self.CHAIN, 0, 3, ("open", (4,)))
            self.assert_wrong("open", check, self.CHAIN, 0, 3, ("open", ()))
            self.assert_wrong("open", check, self.CHAIN, 0, 3, ("open", (0, 1, 2, 3)))
            self.assert_wrong("open", check, self.CHAIN, 0, 3, ("open", (0, 1, 2, 3, 4)))
            self.assert_wrong("open", check, self.CHAIN, 0, 0, ("open", (0, 1, 2, 3, 4)))
        self.assert_wrong("open", check_greatest, self.CHAIN, 0, 3, ("open", (1, 2)))
        self.assert_wrong("open", check_least, self.CHAIN, 0, 1, ("open", (3,)))

    def test_not_ascending_or_twice(self):
        for events in ((0, 2, 1), (2, 1, 0), (1, 0, 2), (0, 1, 2, 2), (0, 0, 1, 2), (0, 1, 1, 2), (0, 1, 2, 4, 4)):
            self.assert_wrong("open", check_greatest, self.CHAIN, 0, 3, ("open", events))

    def test_other_values(self):
        for value in [[0, 1, 2], {0: 0}, 0, LONG, "012", (0, 1, 2) * 100000] + no_integers():
            self.assert_wrong("open", check_greatest, self.CHAIN, 0, 3, ("open", value))
            self.assert_wrong("open", check_least, self.CHAIN, 0, 2, ("open", value))
        for value in [-1, 5, LONG, -LONG, tower(0)] + no_integers():
            self.assert_wrong("open", check_greatest, self.CHAIN, 0, 3, ("open", (0, 1, 2, value)))
            self.assert_wrong("open", check_greatest, self.CHAIN, 0, 3, ("open", (value, 1, 2)))
            self.assert_wrong("open", check_least, self.CHAIN, 0, 2, ("open", (0, value)))

    def test_true_and_false(self):
        self.assert_wrong("open", check_greatest, self.CHAIN, 0, 3, ("open", (False, 1, 2)))
        self.assert_wrong("open", check_greatest, self.CHAIN, 0, 3, ("open", (0, True, 2)))
        self.assert_wrong("open", check_least, self.CHAIN, 0, 2, ("open", (False, 3)))

    def test_another_pair_of_events(self):
        self.assert_wrong("open", check_greatest, self.CHAIN, 2, 1, greatest_gap(self.CHAIN, 0, 3))
        self.assert_wrong("open", check_greatest, self.CHAIN, 0, 1, greatest_gap(self.CHAIN, 0, 3))
        self.assert_right(check_greatest, self.CHAIN, 2, 3, greatest_gap(self.CHAIN, 0, 3))
        self.assert_wrong("open", check_greatest, self.CHAIN, 0, 3, greatest_gap(self.CHAIN, 2, 3))


class CalendarTest(CheckTestCase):
    def test_no_calendar(self):
        wrong = [(1, 4, 7, 5), (1, 4, 7, 5, 3, 0), [1, 4, 7, 5, 3], (1, 4, 8, 5, 3), (2, 4, 7, 5, 3), (1, 5, 7, 5, 3),
                 (1, True, 7, 5, 3), (1, 4, 7, 5, None), (), None, 0, LONG, Odd(), tower(1), (tower(1),) * 5]
        for days in wrong + other_values() + odd_tuples():
            self.assert_wrong("calendar", check_greatest, WIDE, 0, 2, ("most", 6, days, ((0, 1),), ()))
            self.assert_wrong("calendar", check_least, WIDE, 0, 1, ("least", 2, days, ((2,),), (1,)))

    def test_calendar_is_wrong_ahead_of_number_and_legs(self):
        for value in no_integers():
            self.assert_wrong("calendar", check_greatest, WIDE, 0, 2, ("most", value, value, value, value))
            self.assert_wrong("calendar", check_least, WIDE, 0, 2, ("least", value, (value,) * 5, value, value))

    def test_any_calendar_with_the_gap(self):
        for far in (0, 7, -7, 7 * LONG):
            high = tuple(day + far for day in (1, 4, 7, 5, 3))
            self.assert_right(check_greatest, WIDE, 0, 2, ("most", 6, high, ((0, 1),), ()))
            low = tuple(day + far for day in (1, 3, 7, 5, 3))
            self.assert_right(check_least, WIDE, 0, 1, ("least", 2, low, ((2,),), (1,)))


class NumberTest(CheckTestCase):
    def test_not_the_gap(self):
        for value in [5, 7, -6, 0, LONG, -LONG, tower(6), Odd(), "6", (6,)] + no_integers():
            self.assert_wrong("number", check_greatest, WIDE, 0, 2, ("most", value) + HIGH[2:])
        for value in [1, 3, -2, 0, LONG, -LONG, tower(2), Odd(), "2", (2,)] + no_integers():
            self.assert_wrong("number", check_least, WIDE, 0, 1, ("least", value) + LOW[2:])

    def test_true_and_false(self):
        diary = Diary(7, (0, 0, 1), ((0, 1, 0), (1, 0, 0), (0, 2, 1), (2, 0, -1)))
        for second, wrong in ((1, False), (2, True)):
            for check, call in ((check_greatest, greatest_gap), (check_least, least_gap)):
                answer = call(diary, 0, second)
                self.assert_right(check, diary, 0, second, answer)
                self.assert_wrong("number", check, diary, 0, second, (answer[0], wrong) + answer[2:])

    def test_number_is_wrong_ahead_of_legs(self):
        for value in no_integers():
            self.assert_wrong("number", check_greatest, WIDE, 0, 2, ("most", 7, (1, 4, 7, 5, 3), value, value))
            self.assert_wrong("number", check_least, WIDE, 0, 1, ("least", True, (1, 3, 7, 5, 3), value, value))


class LegsTest(CheckTestCase):
    def most(self, first, second, days, rows, numbers):
        return "most", days[second] - days[first], days, rows, numbers

    def least(self, first, second, days, rows, numbers):
        return "least", days[second] - days[first], days, rows, numbers

    def test_greatest_to_a_dated_event(self):
        days = (1, 4, 7, 5, 3)
        for rows in (((0, 1),), ((3, 4),), ((3, 5, 4),), ((3, 5, 5, 5, 4),), ((0, 1), (2,), (0, 1)), ((0, 1), (7,))):
            self.assert_right(check_greatest, WIDE, 0, 2, self.most(0, 2, days, rows, ()))
        for rows in ((), ((),), ((0, 1), ()), ((6,),), ((2,),), ((0,), (1,)), ((0, 1), (2,)), ((0, 1), (0, 1)), ((0,),)):
            self.assert_wrong("legs", check_greatest, WIDE, 0, 2, self.most(0, 2, days, rows, ()))
        for numbers in ((0, 1), (1,), (7,), (0,), (-1,)):
            self.assert_wrong("legs", check_greatest, WIDE, 0, 2, self.most(0, 2, days, ((0, 1),), numbers))
            self.assert_wrong("legs", check_greatest, WIDE, 0, 2, self.most(0, 2, days, (), numbers))

    def test_least_to_a_dated_event(self):
        days = (1, 4, 7, 5, 3)
        for rows in (((2,),), ((7,), (2,)), ((2,), (0, 1), (2,))):
            self.assert_right(check_least, WIDE, 0, 2, self.least(0, 2, days, rows, ()))
        for rows in ((), ((0, 1),), ((2,), (0, 1)), ((2,), (2,)), ((2,), (7,)), ((7,),), ((2, 0, 1),)):
            self.assert_wrong("legs", check_least, WIDE, 0, 2, self.least(0, 2, days, rows, ()))
        for numbers in ((2,), (7,), (7, 2), (0,)):
            self.assert_wrong("legs", check_least, WIDE, 0, 2, self.least(0, 2, days, (), numbers))
            self.assert_wrong("legs", check_least, WIDE, 0, 2, self.least(0, 2, days, ((2,),), numbers))

    def test_greatest_to_an_undated_event(self):
        days = (1, 4, 7, 5, 3)
        for rows, numbers in (((), (0,)), (((0, 1), (2,)), (0,)), (((3, 4), (2,), (3, 5, 4), (7,), (2,)), (0,))):
            self.assert_right(check_greatest, WIDE, 0, 1, self.most(0, 1, days, rows, numbers))
        for rows, numbers in (
            ((), ()), (((0,),), ()), (((0, 1), (2,), (0,)), ()), (((0, 1),), (2, 0)), ((), (0, 1, 2, 0)), ((), (3,)),
            (((0, 1),), (0,)), (((2,),), (0,)), ((), (1,)), ((), (2, 0)), (((),), (0,)), ((), (0, 0)), ((), (0, 1)),
        ):
            self.assert_wrong("legs", check_greatest, WIDE, 0, 1, self.most(0, 1, days, rows, numbers))
        for numbers in ((3,), (3, 5), (3, 5, 5, 5)):
            self.assert_right(check_greatest, WIDE, 0, 4, self.most(0, 4, (1, 4, 7, 5, 3), (), numbers))

    def test_least_to_an_undated_event(self):
        days = (1, 3, 7, 5, 3)
        for rows, numbers in ((((2,),), (1,)), (((7,), (2,)), (1,)), (((2,), (0, 1), (2,)), (1,))):
            self.assert_right(check_least, WIDE, 0, 1, self.least(0, 1, days, rows, numbers))
        for rows, numbers in (
            ((), (1, 2)), ((), (1,)), (((2,),), ()), (((1,), (2,)), ()), (((2,), (0, 1)), (1,)), (((2,),), (1, 7)),
            (((2,),), (4,)), (((2,),), (2, 0, 1)), (((2,),), (0, 1)), (((7,),), (1,)), ((), ()), (((2,), ()), (1,)),
        ):
            self.assert_wrong("legs", check_least, WIDE, 0, 1, self.least(0, 1, days, rows, numbers))
        for numbers in ((4,), (5, 4), (5, 5, 4)):
            self.assert_right(check_least, WIDE, 0, 4, self.least(0, 4, days, ((2,),), numbers))

    def test_first_and_second_equal(self):
        days = (1, 4, 7, 5, 3)
        for check, word in CHECKS:
            for rows in ((), ((0, 1), (2,)), ((3, 5, 4), (7,), (2,))):
                self.assert_right(check, WIDE, 0, 0, (word, 0, days, rows, ()))
            for rows in (((0, 1),), ((2,),), ((6,), (2,)), ((2,), (0, 1))):
                self.assert_wrong("legs", check, WIDE, 0, 0, (word, 0, days, rows, ()))
            self.assert_wrong("legs", check, WIDE, 0, 0, (word, 0, days, (), (0, 1, 2)))

    def test_legs_do_not_enforce_the_gap(self):
        # The days of these calendars are less than the legs allow.
        days = (1, 3, 7, 5, 3)
        self.assert_wrong("legs", check_greatest, WIDE, 0, 1, ("most", 2, days, (), (0,)))
        self.assert_wrong("legs", check_least, WIDE, 0, 1, ("least", 3, (1, 4, 7, 5, 3), ((2,),), (1,)))
        self.assert_wrong("legs", check_greatest, WIDE, 0, 2, ("most", 6, days, ((6,),), ()))

    def test_other_values(self):
        self.assert_wrong("legs", check_greatest, WIDE, 0, 2, HIGH[:3] + ((0, 1), ()))
        for value in [LONG, (LONG,), [(0, 1)], ([0, 1],), ((0, 1), [2]), "01", ((0, 1), 2)] + no_integers():
            if value != ():
                self.assert_wrong("legs", check_greatest, WIDE, 0, 2, HIGH[:3] + (value, ()))
                self.assert_wrong("legs", check_greatest, WIDE, 0, 2, HIGH[:3] + (((0, 1),), value))
            self.assert_wrong("legs", check_greatest, WIDE, 0, 2, HIGH[:3] + ((value,), ()))
            self.assert_wrong("legs", check_greatest, WIDE, 0, 2, HIGH[:3] + (((0, 1), value), ()))
            self.assert_wrong("legs", check_greatest, WIDE, 0, 2, HIGH[:3] + (((0, value),), ()))
            self.assert_wrong("legs", check_least, WIDE, 0, 1, LOW[:3] + (value, (1,)))
            self.assert_wrong("legs", check_least, WIDE, 0, 1, LOW[:3] + (((2,),), value))
            self.assert_wrong("legs", check_least, WIDE, 0, 1, LOW[:3] + (((2,),), (value,)))
            self.assert_wrong("legs", check_least, WIDE, 0, 1, LOW[:3] + (((2,), value), (1,)))

    def test_lists_in_the_place_of_tuples(self):
        for rows, numbers in (([(0, 1)], ()), (([0, 1],), ()), (((0, 1),), [])):
            self.assert_wrong("legs", check_greatest, WIDE, 0, 2, HIGH[:3] + (rows, numbers))
        for rows, numbers in (([(2,)], (1,)), (([2],), (1,)), (((2,),), [1])):
            self.assert_wrong("legs", check_least, WIDE, 0, 1, LOW[:3] + (rows, numbers))

    def test_true_and_false(self):
        self.assert_wrong("legs", check_greatest, WIDE, 0, 2, HIGH[:3] + (((0, True),), ()))
        self.assert_wrong("legs", check_greatest, WIDE, 0, 2, HIGH[:3] + (((False, 1),), ()))
        self.assert_wrong("legs", check_least, WIDE, 0, 1, LOW[:3] + (((2,),), (True,)))

    def test_values_with_very_many_parts(self):
        for value in [tower(()), tower(0), tower((0,)), tower((0, 1)), tower([]), tower("most")]:
            for answer in ((value, value), ((value,), value), ((0, 1), value), (((0, 1),), (value,)), ((value,) * 3, ())):
                self.assert_wrong("legs", check_greatest, WIDE, 0, 2, HIGH[:3] + answer)
                self.assert_wrong("legs", check_least, WIDE, 0, 1, LOW[:3] + answer)
            self.assert_wrong("open", check_greatest, WIDE, 0, 3, ("open", value))
            self.assert_wrong("number", check_greatest, WIDE, 0, 2, ("most", value) + HIGH[2:])

    def test_long_answers(self):
        rows = ((0, 1), (2,)) * 5000
        self.assert_right(check_greatest, WIDE, 0, 2, HIGH[:3] + (rows + ((0, 1),), ()))
        self.assert_wrong("legs", check_greatest, WIDE, 0, 2, HIGH[:3] + (rows, ()))
        self.assert_right(check_least, WIDE, 0, 1, LOW[:3] + (((2,),) + rows, (1,)))
        numbers = (3,) + (5,) * 10000
        self.assert_right(check_greatest, WIDE, 0, 4, ("most", 2, (1, 4, 7, 5, 3), (), numbers))
        self.assert_wrong("legs", check_greatest, WIDE, 0, 2, HIGH[:3] + ((((0,) * 100000),) * 100000, ()))
        self.assert_wrong("legs", check_least, WIDE, 0, 1, LOW[:3] + ((((0,) * 100000),) * 100000, (1,)))

    def test_arguments_stay_as_they_were(self):
        rows, numbers, days = [[0, 1]], [], [1, 4, 7, 5, 3]
        self.assert_wrong("legs", check_greatest, WIDE, 0, 2, HIGH[:3] + (rows, numbers))
        self.assert_wrong("calendar", check_greatest, WIDE, 0, 2, ("most", 6, days, rows, numbers))
        self.assertEqual((rows, numbers, days), ([[0, 1]], [], [1, 4, 7, 5, 3]))
        self.assertEqual(WIDE.weekdays, (1, None, 0, 5, None))


class AnswersOfOtherPairsTest(CheckTestCase):
    def test_answers_of_other_pairs(self):
        calls = ((check_greatest, greatest_gap, self.assert_most), (check_least, least_gap, self.assert_least))
        for check, call, prove in calls:
            pairs = [(first, second) for first in (0, 2, 3) for second in range(5)]
            for first, second in pairs:
                answer = call(WIDE, first, second)
                self.assert_right(check, WIDE, first, second, answer)
                for other in pairs:
                    self.assert_same(check, prove, WIDE, other, answer)

    def test_answers_of_other_diaries(self):
        source = random.Random(36)
        found = list(large_diaries(source, 60))
        for (diary, _), (other, _) in zip(found, found[1:]):
            for check, call, prove in (
                (check_greatest, greatest_gap, self.assert_most), (check_least, least_gap, self.assert_least),
            ):
                second = source.randrange(min(len(diary), len(other)))
                answer = call(other, 0, second)
                self.assert_same(check, prove, diary, (0, second), answer)

    def assert_same(self, check, prove, diary, pair, answer):
        """Check that an answer is taken exactly if it proves itself."""
        try:
            wanted = prove(diary, *pair, answer)
        except (AssertionError, ValueError, IndexError):
            self.error(InvalidAnswer, check, diary, *pair, answer)
        else:
            self.assertEqual(check(diary, *pair, answer), wanted)


class ErrorsTest(CheckTestCase):
    def test_events(self):
        for check, _ in CHECKS:
            for answer in (HIGH, LOW, ("open", (0,)), None, tower(0)):
                self.assert_value(InvalidEvent, check, 1, DIARY, 1, 9, answer)
                self.assert_value(InvalidEvent, check, 9, DIARY, 0, 9, answer)
            self.assert_first(check, second="x", answer=None)
            self.assert_second(check, answer=[])

    def test_no_calendar_comes_before_the_answer(self):
        for check, _ in CHECKS:
            for diary in (RING, LOOP):
                for answer in (None, [], tower(0), ("open", (0,)), HIGH, LOW):
                    self.assert_reason(diary, check, diary, 0, 1, answer)
                    self.assert_reason(diary, check, answer=answer, second=1, first=0, diary=diary)


if __name__ == "__main__":
    unittest.main()
