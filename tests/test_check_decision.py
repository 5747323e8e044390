"""Points 12 to 15: checking an answer."""

import unittest

from tests.helpers import LONG, Odd, ProgramTestCase, no_integers, other_values, odd_tuples, tower
from weekdaylegs.decisions import check_decision, decide
from weekdaylegs.diaries import Diary
from weekdaylegs.errors import InvalidAnswer

POSSIBLE = Diary(7, (1, None, 0), ((0, 1, 3), (1, 2, 4), (2, 0, -6)))
IMPOSSIBLE = Diary(7, (1, None, 0), ((0, 1, 3), (1, 2, 4), (2, 0, -7), (2, 2, 13), (1, 1, 0)))
# Both a loop, with the bounds 0 and 1 or 4, and a ring, with the bound 2, are negative.
BOTH = Diary(7, (None, None, 0), ((0, 1, 5), (1, 0, -6), (2, 2, -1), (2, 2, 0), (0, 0, -3), (2, 0, 1), (1, 2, 1)))


class CheckTestCase(ProgramTestCase):
    def assert_correct(self, diary, answer):
        self.assertEqual(check_decision(diary, answer), answer[0])
        self.assertEqual(check_decision(answer=answer, diary=diary), answer[0])

    def assert_wrong(self, part, diary, answer):
        self.assert_fields({"part": part}, InvalidAnswer, check_decision, diary, answer)
        self.assert_fields({"part": part}, InvalidAnswer, check_decision, answer=answer, diary=diary)


class FormTest(CheckTestCase):
    def test_no_pairs(self):
        values = [None, 0, "calendar", (), ("ring",), ("calendar", (1, 4, 7), ()), ["calendar", (1, 4, 7)]]
        for answer in values + other_values() + odd_tuples():
            self.assert_wrong("form", POSSIBLE, answer)

    def test_other_words(self):
        words = ["form", "Calendar", "calendar ", "", "rings", "open", "most", b"ring", ("ring",), ["ring"], Odd()]
        for word in words + no_integers() + [0, LONG]:
            if not (isinstance(word, str) and word == "calendar"):
                self.assert_wrong("form", POSSIBLE, (word, (1, 4, 7)))

    def test_words_in_another_place(self):
        self.assert_wrong("form", POSSIBLE, ((1, 4, 7), "calendar"))
        self.assert_wrong("form", POSSIBLE, (tower("ring"), tower("ring")))
        self.assert_wrong("form", POSSIBLE, (tower("ring"), ()))

    def test_other_kinds_behind_the_word(self):
        for value in [LONG, -LONG] + no_integers():
            for word in ("calendar", "loop", "ring"):
                for diary in (POSSIBLE, IMPOSSIBLE, BOTH):
                    self.assert_wrong(word, diary, (word, value))
                    self.assert_wrong(word, diary, (word, (value,)))
                    self.assert_wrong(word, diary, (word, (value, value)))
                    self.assert_wrong(word, diary, (word, ((value,),)))
                    self.assert_wrong(word, diary, (word, ((0, 1), value)))

    def test_values_with_very_many_parts(self):
        for value in [tower(()), tower(0), tower((0,)), tower((2,)), tower([]), tower("ring")]:
            for word in ("calendar", "loop", "ring"):
                for answer in (value, (value, 0), (0, value), ((value, value), value), (value,) * 3):
                    self.assert_wrong(word, BOTH, (word, answer))

    def test_arguments_stay_as_they_were(self):
        answer, days = ["ring", [[0, 1], [2]]], [1, 4, 7]
        self.assert_wrong("form", IMPOSSIBLE, answer)
        self.assert_wrong("calendar", POSSIBLE, ("calendar", days))
        self.assertEqual((answer, days), (["ring", [[0, 1], [2]]], [1, 4, 7]))


class CalendarAnswerTest(CheckTestCase):
    def test_correct(self):
        self.assert_correct(POSSIBLE, ("calendar", (1, 4, 7)))
        self.assert_correct(POSSIBLE, ("calendar", (1, 3, 7)))
        self.assert_correct(POSSIBLE, ("calendar", (1 + 7 * LONG, 4 + 7 * LONG, 7 + 7 * LONG)))

    def test_wrong(self):
        for days in ((1, 4), (1, 4, 7, 0), [1, 4, 7], (1, 4, 8), (2, 4, 7), (1, 5, 7), (1, 2, 7), (1, 1, 0), (1, True, 7)):
            self.assert_wrong("calendar", POSSIBLE, ("calendar", days))
        for diary in (IMPOSSIBLE, BOTH):
            self.assert_wrong("calendar", diary, ("calendar", (1, 4, 7)))


class LoopAnswerTest(CheckTestCase):
    def test_correct(self):
        for numbers in ((0, 1), (1, 0), (4,), (4, 4), (0, 1, 4), (0, 1, 0, 1), (4,) * 10000):
            self.assert_correct(BOTH, ("loop", numbers))

    def test_wrong(self):
        for numbers in ((), [0, 1], (0,), (0, 0), (0, 1, 0), (2,), (0, 6, 5), (7,), (-1,), (True, 0), (0, None), ((0, 1),)):
            self.assert_wrong("loop", BOTH, ("loop", numbers))

    def test_sum_is_not_negative(self):
        self.assert_wrong("loop", IMPOSSIBLE, ("loop", (4,)))
        for most, total in ((-5, 0), (-4, 1)):
            diary = Diary(7, (None, None), ((0, 1, 5), (1, 0, most)))
            self.assert_wrong("loop", diary, ("loop", (0, 1)))
        self.assert_correct(Diary(7, (None, None), ((0, 1, 5), (1, 0, -6))), ("loop", (0, 1)))

    def test_ring_given_as_a_loop(self):
        self.assert_wrong("loop", IMPOSSIBLE, ("loop", (0, 1, 2)))
        self.assert_wrong("loop", IMPOSSIBLE, ("loop", ((0, 1), (2,))))


class RingAnswerTest(CheckTestCase):
    def test_correct(self):
        for rows in (((0, 1), (2,)), ((2,), (0, 1)), ((0, 4, 1), (2,)), ((0, 1), (2,), (0, 1), (2,))):
            self.assert_correct(IMPOSSIBLE, ("ring", rows))
        self.assert_correct(IMPOSSIBLE, ("ring", ((0, 1), (2,)) * 5000))

    def test_correct_also_if_there_is_a_negative_loop(self):
        self.assertEqual(decide(BOTH)[0], "loop")
        for rows in (((2,),), ((2,), (2,)), ((2,), (3,)), ((5, 0, 6), (2,), (2,)), ((5, 4, 4, 0, 6), (2,))):
            self.assert_correct(BOTH, ("ring", rows))

    def test_wrong_shapes(self):
        for rows in ((), ((),), [(0, 1), (2,)], ([0, 1], [2]), ((0, 1), [2]), (0, 1, 2), ((0, 1), 2), ((0, 1), (2,), ())):
            self.assert_wrong("ring", IMPOSSIBLE, ("ring", rows))

    def test_wrong_legs(self):
        for row in ((0,), (1,), (0, 1, 2), (0, 0), (5,), (-1,), (0, True), (0, None), ((0, 1),)):
            self.assert_wrong("ring", IMPOSSIBLE, ("ring", (row,)))
            self.assert_wrong("ring", IMPOSSIBLE, ("ring", ((2,), row)))
            self.assert_wrong("ring", IMPOSSIBLE, ("ring", ((0, 1), (2,), row)))

    def test_legs_that_are_not_in_a_row(self):
        for rows in (((0, 1),), ((2,),), ((2,), (2,)), ((0, 1), (2,), (2,)), ((0, 1), (0, 1), (2,)), ((2,), (3,))):
            self.assert_wrong("ring", IMPOSSIBLE, ("ring", rows))

    def test_sum_is_not_negative(self):
        # The lengths are 6, -13, 7: with the bound 3 once, the sum is 0.
        self.assert_wrong("ring", IMPOSSIBLE, ("ring", ((3,),)))
        self.assert_wrong("ring", IMPOSSIBLE, ("ring", ((0, 1), (3,), (2,))))
        self.assert_wrong("ring", POSSIBLE, ("ring", ((0, 1), (2,))))
        self.assert_wrong("ring", BOTH, ("ring", ((3,),)))

    def test_sum_of_the_bounds_is_not_what_counts(self):
        # The lengths are 3 and -3, and then 3 and -10.
        self.assert_wrong("ring", Diary(7, (0, 3), ((0, 1, 9), (1, 0, -3))), ("ring", ((0,), (1,))))
        self.assert_correct(Diary(7, (0, 3), ((0, 1, 9), (1, 0, -4))), ("ring", ((0,), (1,))))


if __name__ == "__main__":
    unittest.main()
