"""Point 50: the texts of diaries."""

import random
import unittest

from tests.helpers import LONG, ProgramTestCase, no_integers, tower
from tests.samples import large_diaries, random_diary, small_diary
from weekdaylegs.diaries import Diary
from weekdaylegs.errors import ParseError
from weekdaylegs.texts import diary_text, read_diary

DAYS = 10 ** 9
NO_INTEGERS = [
    "--1", "+1", "-", "--", "-0", "-00", "00", "01", "007", "-01", "1.0", "1e1", "1_0", "0x1", "1-", "1,", "x", "None",
    "one", "event", "bound", "modulus", "00000000001", "12345678901", "-12345678901", "9" * 5000, "-" + "9" * 5000,
    "0" * 5000, "1" + "0" * 4999, "-" * 5000, "x" * 5000, "\u0661", "\u00b2", "\u2460", "\uff11", "-\u0661", "1\t", "\r",
]


class TextsTestCase(ProgramTestCase):
    def assert_text(self, diary, text):
        self.assertEqual(diary_text(diary), text)
        self.assertEqual(diary_text(diary=diary), text)
        self.assertEqual(read_diary(text), diary)
        self.assertEqual(read_diary(text=text), diary)

    def assert_wrong(self, line, word, value):
        self.assert_fields({"line": line, "word": word}, ParseError, read_diary, value)
        self.assert_fields({"line": line, "word": word}, ParseError, read_diary, text=value)


def text_of(diary):
    """Return the text of a diary, made in another way than the program does."""
    rows = [("modulus", diary.modulus)]
    rows += [("event", "-" if weekday is None else weekday) for weekday in diary.weekdays]
    rows += [("bound", *bound) for bound in diary.bounds]
    return "\n".join(" ".join(map(str, row)) for row in rows)


class TextTest(TextsTestCase):
    def test_example_of_the_document(self):
        text = "modulus 7\nevent 1\nevent -\nbound 0 1 3\nbound 1 0 -2"
        self.assert_text(Diary(7, (1, None), ((0, 1, 3), (1, 0, -2))), text)
        self.assertIs(type(diary_text(Diary.of(7, 0))), str)
        self.assertIs(type(read_diary(text)), Diary)

    def test_without_bounds(self):
        self.assert_text(Diary.of(2, 0), "modulus 2\nevent 0")
        self.assert_text(Diary.of(100, None), "modulus 100\nevent -")
        self.assert_text(Diary.of(100, 99, None, 0), "modulus 100\nevent 99\nevent -\nevent 0")

    def test_greatest_and_least_numbers(self):
        diary = Diary(100, (None,) * 16, ((15, 0, DAYS), (0, 15, -DAYS), (10, 9, 0)))
        events = "event -\n" * 16
        self.assert_text(diary, f"modulus 100\n{events}bound 15 0 1000000000\nbound 0 15 -1000000000\nbound 10 9 0")
        self.assert_text(Diary(7, (1,), ((0, 0, 999999999), (0, 0, -1))), "modulus 7\nevent 1\nbound 0 0 999999999\nbound 0 0 -1")

    def test_most_events_and_bounds(self):
        diary = Diary(100, (0, None) * 8, tuple((k // 4, 15 - k // 4, -k) for k in range(60)))
        self.assert_text(diary, text_of(diary))
        self.assertEqual(diary_text(diary).count("\n"), 76)

    def test_any_diaries(self):
        source = random.Random(121)
        for _ in range(200):
            diary = small_diary(source)
            self.assert_text(diary, text_of(diary))
            modulus, reach = source.randint(2, 100), source.choice((9, DAYS - 2))
            diary = random_diary(source, modulus, source.randint(1, 16), source.randint(0, 60), reach)
            self.assert_text(diary, text_of(diary))

    def test_mirrored_and_shifted_diaries(self):
        source = random.Random(122)
        for diary, _ in large_diaries(source, 40):
            for other in (diary.mirrored(), diary.shifted(source.randint(-200, 200)), diary.shifted(LONG)):
                self.assert_text(other, text_of(other))

    def test_the_diary_stays_as_it_was(self):
        diary = Diary(7, (1, None), ((0, 1, 3),))
        diary_text(diary)
        self.assertEqual((diary.modulus, diary.weekdays, diary.bounds), (7, (1, None), ((0, 1, 3),)))


class OtherValuesTest(TextsTestCase):
    def test_no_strings(self):
        for value in [0, LONG, tower("modulus 7"), ["modulus 7"], ("modulus 7", "event 1"), b"modulus 7\nevent 1"]:
            self.assert_wrong(0, 0, value)
        for value in no_integers():
            if not isinstance(value, str):
                self.assert_wrong(0, 0, value)

    def test_the_empty_text(self):
        self.assert_wrong(1, 0, "")
        self.assert_wrong(1, 0, "\n")
        self.assert_wrong(1, 0, "\nmodulus 7\nevent 1")

    def test_short_strings_of_all_characters(self):
        for code in range(32, 127):
            self.assert_wrong(1, 0 if code == 32 else 1, chr(code))
            self.assert_wrong(3, 0 if code == 32 else 1, "modulus 7\nevent 1\n" + chr(code))


class PlacesTest(TextsTestCase):
    """Wrong words at all places of a text of five lines."""

    ROWS = ["modulus 7", "event 1", "event -", "bound 0 1 3", "bound 1 0 -2"]

    def with_row(self, line, row):
        return "\n".join(self.ROWS[:line - 1] + [row] + self.ROWS[line:])

    def assert_row(self, line, word, row):
        """Check that this line instead of its own one is wrong at this word, whatever follows."""
        self.assert_wrong(line, word, self.with_row(line, row))
        self.assert_wrong(line, word, "\n".join(self.ROWS[:line - 1] + [row]))
        self.assert_wrong(line, word, "\n".join(self.ROWS[:line - 1] + [row, "", "x", "event 7", "bound 9 9 9"]))

    def test_spaces(self):
        for line, row in enumerate(self.ROWS, start=1):
            for wrong in ("", " ", "  ", " " + row, row + " ", "  " + row, row + "  ", row.replace(" ", "  ", 1),
                          "  ".join(row.rsplit(" ", 1)), "x  y z z z z", "x ", " x", row + " 1 2 3  4"):
                self.assert_row(line, 0, wrong)

    def test_missing_words(self):
        for line, row in enumerate(self.ROWS, start=1):
            words = row.split(" ")
            for many in range(1, len(words)):
                self.assert_row(line, many + 1, " ".join(words[:many]))

    def test_words_too_many(self):
        for line, row in enumerate(self.ROWS, start=1):
            for more in ("0", "-", "x", "event 1", "1 2 3 4 5", "9" * 5000):
                self.assert_row(line, row.count(" ") + 2, f"{row} {more}")

    def test_other_first_words(self):
        for line, row in enumerate(self.ROWS, start=1):
            for name in ("x", "Modulus", "EVENT", "bounds", "event:", "0", "-", "even", "modulus7", "7"):
                self.assert_row(line, 1, " ".join([name] + row.split(" ")[1:]))
                self.assert_row(line, 1, name)

    def test_other_integers(self):
        for line, row in enumerate(self.ROWS, start=1):
            words = row.split(" ")
            for spot in range(1, len(words)):
                for wrong in NO_INTEGERS:
                    if wrong != "-" or words[0] != "event":
                        self.assert_row(line, spot + 1, " ".join(words[:spot] + [wrong] + words[spot + 1:]))
                        self.assert_row(line, spot + 1, " ".join(words[:spot] + [wrong]))

    def test_numbers_that_are_not_allowed(self):
        for wrong in ("0", "1", "-7", "101", "1000000000", "9999999999", "-1000000000"):
            self.assert_row(1, 2, f"modulus {wrong}")
        for line in (2, 3):
            for wrong in ("7", "-1", "100", "9999999999"):
                self.assert_row(line, 2, f"event {wrong}")
        for line in (4, 5):
            for wrong in ("2", "-1", "16", "9999999999", "-9999999999"):
                self.assert_row(line, 2, f"bound {wrong} 0 3")
                self.assert_row(line, 3, f"bound 0 {wrong} 3")
            for wrong in ("1000000001", "-1000000001", "9999999999", "-9999999999"):
                self.assert_row(line, 4, f"bound 0 1 {wrong}")
        self.assertEqual(read_diary(self.with_row(1, "modulus 2")).modulus, 2)
        self.assert_wrong(2, 2, "modulus 2\nevent 2")
        self.assert_wrong(2, 2, "modulus 100\nevent 100")

    def test_the_first_wrong_word_of_a_line(self):
        self.assert_row(1, 1, "x y z z")
        self.assert_row(1, 2, "modulus y z")
        self.assert_row(2, 2, "event y z")
        self.assert_row(2, 3, "event - z")
        self.assert_row(2, 3, "event - -")
        self.assert_row(2, 2, "event -- z")
        self.assert_row(4, 2, "bound 2 2 x x")
        self.assert_row(4, 3, "bound 1 2 x x")
        self.assert_row(4, 3, "bound 1 2")
        self.assert_row(4, 4, "bound 1 1 x x")
        self.assert_row(4, 5, "bound 1 1 1 x y")
        self.assert_row(4, 2, "bound -")
        self.assert_row(4, 4, "bound 0 0 -")

    def test_lines_in_the_wrong_order(self):
        for row in ("event 1", "bound 0 0 1", "event -"):
            self.assert_row(1, 1, row)
        for row in ("bound 0 0 1", "bound", "bound x", "modulus 7", "modulus"):
            self.assert_row(2, 1, row)
        for line in (3, 4, 5):
            self.assert_row(line, 1, "modulus 7")
        for row in ("event 1", "event -", "event", "event x"):
            self.assert_row(5, 1, row)

    def test_events_of_bounds_are_all_lines_event(self):
        self.assert_wrong(3, 3, "modulus 7\nevent 1\nbound 0 1 3\nevent 2")
        self.assertEqual(len(read_diary("modulus 7\nevent 1\nevent 2\nbound 0 1 3")), 2)


class EndsTest(TextsTestCase):
    def test_only_one_line(self):
        for modulus in (2, 7, 100):
            self.assert_wrong(2, 1, f"modulus {modulus}")
        self.assert_wrong(1, 2, "modulus 101")
        self.assert_wrong(1, 2, "modulus")
        self.assert_wrong(1, 3, "modulus 7 7")

    def test_a_line_feed_at_the_end(self):
        self.assert_wrong(2, 0, "modulus 7\n")
        self.assert_wrong(3, 0, "modulus 7\nevent 1\n")
        self.assert_wrong(4, 0, "modulus 7\nevent 1\nbound 0 0 0\n")
        self.assert_wrong(3, 0, "modulus 7\nevent 1\n\n")

    def test_other_ends_of_lines(self):
        self.assert_wrong(1, 2, "modulus 7\r\nevent 1")
        self.assert_wrong(2, 2, "modulus 7\nevent 1\r")

    def test_too_many_events(self):
        rows = ["modulus 7"] + ["event -", "event 3"] * 8
        self.assertEqual(len(read_diary("\n".join(rows))), 16)
        for row in ("event -", "event 3", "event", "event x", "event 3 3"):
            self.assert_wrong(18, 1, "\n".join(rows + [row]))
        self.assert_wrong(18, 0, "\n".join(rows + ["event "]))
        self.assert_wrong(18, 2, "\n".join(rows + ["bound 16 0 0"]))

    def test_too_many_bounds(self):
        rows = ["modulus 7", "event -"] + ["bound 0 0 3"] * 60
        self.assertEqual(len(read_diary("\n".join(rows)).bounds), 60)
        for row in ("bound 0 0 3", "bound", "bound x", "event -", "x"):
            self.assert_wrong(63, 1, "\n".join(rows + [row]))
        self.assert_wrong(63, 0, "\n".join(rows + [" bound 0 0 3"]))
        self.assert_wrong(63, 1, "\n".join(rows + ["bound 0 0 3"] * 900))

    def test_wrong_texts_are_found_line_by_line(self):
        self.assert_wrong(2, 2, "modulus 7\nevent 9\n\nbound")
        self.assert_wrong(3, 0, "modulus 7\nevent 1\n\nevent 9")
        self.assert_wrong(1, 2, "modulus 1\nx\n ")


class OneCharacterTest(TextsTestCase):
    def test_a_text_with_one_other_character(self):
        # What is read without an error must be written in the very same way.
        text = "modulus 12\nevent 11\nevent -\nbound 0 1 30\nbound 1 0 -2"
        found = {"read": 0, "wrong": 0}
        for spot in range(len(text) + 1):
            for sign in ["", *map(chr, range(32, 127)), "\n"]:
                for other in (text[:spot] + sign + text[spot:], text[:spot] + sign + text[spot + 1:]):
                    try:
                        self.assertEqual(diary_text(read_diary(other)), other)
                        found["read"] += 1
                    except ParseError as error:
                        self.assertIn(error.line, range(1, other.count("\n") + 2))
                        found["wrong"] += 1
        self.assertGreater(min(found.values()), 100)


if __name__ == "__main__":
    unittest.main()
