"""The console: its commands, and what it says if they fail."""

import random
import unittest

from tests.helpers import LONG, ProgramTestCase, no_integers, tower
from tests.samples import small_diary
from tests.test_texts import NO_INTEGERS
from weekdaylegs.certainty import possible_weekdays
from weekdaylegs.console import Console
from weekdaylegs.decisions import decide
from weekdaylegs.diaries import Diary
from weekdaylegs.errors import InvalidDiary, InvalidEvent, InvalidNumber, LimitExceeded, NoCalendar, NothingToUndo
from weekdaylegs.gaps import greatest_gap, least_gap
from weekdaylegs.live import LiveDiary
from weekdaylegs.windows import count_calendars

DAYS = 10 ** 9
# One command of each form that has no place for a weekday, and how many integers it has.
SIZES = {"most": 3, "least": 3, "undo": 0, "decide": 0, "gap": 2, "weekdays": 1, "count": 2}
QUESTIONS = ("decide", "gap 0 1", "gap 0 2", "gap 2 0", "weekdays 0", "weekdays 1", "weekdays 2", "count 0 20")


def console_of(*commands):
    """Return a console that has run these commands, each with the result ok."""
    console = Console()
    for command in commands:
        assert console.run(command) == "ok", command
    return console


def told(console):
    """Return the results of questions about a diary of three events."""
    return [console.run(command) for command in QUESTIONS]


class ConsoleTestCase(ProgramTestCase):
    def assert_runs(self, console, *pairs):
        """Check commands one after another, each with its result."""
        for command, result in pairs:
            found = console.run(command)
            self.assertIs(type(found), str)
            self.assertEqual(found, result, command)


class CommandsTest(ConsoleTestCase):
    def test_example_of_the_document(self):
        console = Console()
        found = console.run("new 7 1 - 0"), console.run("most 0 2 8"), console.run("least 0 2 0"), console.run("gap 0 2")
        self.assertEqual(found, ("ok", "ok", "ok", "6 6"))
        self.assertEqual(console.run("gap 0 1"), "open open")

    def test_by_name(self):
        self.assertEqual(Console().run(command="new 7 1"), "ok")

    def test_new(self):
        for command in ("new 7 1", "new 7 -", "new 2 0 1 - 0", "new 100 99 " + " ".join(["-"] * 15), "new 7 0 0 0"):
            self.assert_runs(Console(), (command, "ok"), ("decide", "calendar"), ("undo", "nothing to undo"))

    def test_new_has_these_weekdays_and_no_bounds(self):
        console = console_of("new 9 8 - 0 3")
        self.assert_runs(console, ("weekdays 0", "8"), ("weekdays 1", "0 1 2 3 4 5 6 7 8"), ("weekdays 2", "0"),
                         ("weekdays 3", "3"), ("weekdays 4", "bad event"), ("gap 0 2", "open open"))

    def test_new_replaces_the_diary_and_its_changes(self):
        console = console_of("new 7 1 - 0", "most 0 2 5", "least 0 2 0", "note 1 4", "new 7 1 - 0")
        self.assertEqual(told(console), told(console_of("new 7 1 - 0")))
        self.assert_runs(console, ("undo", "nothing to undo"), ("new 5 3", "ok"), ("gap 0 1", "bad event"), ("weekdays 0", "3"))

    def test_most_and_least(self):
        console = console_of("new 7 1 - 0", "least 0 2 6", "most 0 1 3", "most 1 2 4")
        self.assert_runs(console, ("gap 0 2", "6 6"), ("gap 0 1", "2 3"), ("gap 2 0", "-6 -6"), ("weekdays 1", "3 4"),
                         ("most 0 1 2", "ok"), ("gap 0 1", "2 2"), ("least 0 1 3", "ok"), ("decide", "ring"))
        console = console_of("new 7 1 - 0", "most 2 0 -1000000000", "least 2 0 -1000000000")
        self.assert_runs(console, ("gap 2 0", "-1000000000 -1000000000"), ("gap 0 2", "1000000000 1000000000"))
        console = console_of("new 7 1 - 0", "most 2 1 1000000000", "least 2 1 1000000000", "most 0 1 -1000000000")
        self.assert_runs(console, ("gap 2 1", "1000000000 1000000000"), ("gap 2 0", "2000000003 open"))

    def test_note(self):
        console = console_of("new 7 1 - 0", "note 1 3", "note 0 -", "note 2 -", "note 0 6")
        self.assert_runs(console, ("weekdays 0", "6"), ("weekdays 1", "3"), ("weekdays 2", "0 1 2 3 4 5 6"), ("undo", "ok"),
                         ("weekdays 0", "0 1 2 3 4 5 6"), ("note 0 -", "ok"), ("gap 0 1", "bad event"))

    def test_undo(self):
        console = console_of("new 7 1 - 0")
        states = [told(console)]
        for command in ("most 0 1 3", "least 0 2 6", "note 1 4", "most 1 2 4", "note 1 -", "most 0 2 5"):
            self.assert_runs(console, (command, "ok"))
            states.append(told(console))
        self.assertEqual(len(set(map(tuple, states))), 7)
        while states:
            self.assertEqual(told(console), states.pop())
            self.assertEqual(console.run("undo"), "ok" if states else "nothing to undo")

    def test_decide(self):
        console = console_of("new 7 1 - - 0")
        self.assert_runs(console, ("decide", "calendar"), ("most 0 3 5", "ok"), ("decide", "calendar"),
                         ("least 0 3 0", "ok"), ("decide", "ring"), ("most 1 2 0", "ok"), ("least 1 2 1", "ok"),
                         ("decide", "loop"), ("undo", "ok"), ("undo", "ok"), ("undo", "ok"), ("decide", "calendar"))

    def test_gap_with_open_ends(self):
        self.assert_runs(console_of("new 7 1 - 0"), ("gap 0 1", "open open"), ("gap 0 0", "0 0"), ("gap 2 2", "0 0"))
        console = console_of("new 7 1 - 0", "most 0 2 8")
        self.assert_runs(console, ("gap 0 2", "open 6"), ("gap 2 0", "-6 open"))
        console = console_of("new 7 1 - 0", "least 0 1 -3")
        self.assert_runs(console, ("gap 0 1", "-3 open"), ("gap 2 1", "open open"))

    def test_long_numbers(self):
        commands = [f"least {event} {event + 1} 1000000000" for event in range(9)]
        console = console_of("new 7 1" + " -" * 9, *commands)
        self.assert_runs(console, ("gap 0 9", "9000000000 open"))

    def test_weekdays(self):
        console = console_of("new 7 6 -", "most 0 1 2", "least 0 1 -1")
        self.assert_runs(console, ("weekdays 1", "0 1 5 6"), ("weekdays 0", "6"), ("note 0 -", "ok"),
                         ("weekdays 1", "0 1 2 3 4 5 6"))

    def test_count(self):
        console = console_of("new 7 1 - 0", "least 0 2 6", "most 0 1 3", "most 1 2 4")
        self.assert_runs(console, ("count 0 13", "2"), ("count 2 13", "0"), ("count 0 0", "0"), ("count -7 30", "10"),
                         ("count 999999999 1000000999", "284"), ("count -1000000000 -1000000000", "0"))
        console = console_of("new 7 -")
        self.assert_runs(console, ("count 0 999", "1000"), ("count 5 5", "1"), ("count 0 1000", "too many calendars"),
                         ("count -1000000000 -999999000", "too many calendars"), ("decide", "calendar"))

    def test_count_without_a_calendar(self):
        console = console_of("new 7 1 - 0", "most 0 2 5", "least 0 2 0")
        self.assert_runs(console, ("count 0 1000", "0"), ("decide", "ring"))

    def test_two_consoles_are_independent(self):
        one, other = Console(), Console()
        self.assert_runs(one, ("new 7 1 - 0", "ok"))
        self.assert_runs(other, ("decide", "no diary"), ("new 7 1 - 0", "ok"), ("most 0 2 5", "ok"))
        self.assert_runs(one, ("undo", "nothing to undo"), ("gap 0 2", "open open"), ("least 0 2 0", "ok"))
        self.assert_runs(other, ("decide", "calendar"), ("gap 0 2", "open -1"))
        self.assert_runs(one, ("new 3 1", "ok"))
        self.assert_runs(other, ("gap 0 2", "open -1"), ("undo", "ok"), ("undo", "nothing to undo"))


class BadCommandTest(ConsoleTestCase):
    def assert_bad(self, *commands):
        """Check that these are no commands, with and without a diary, and that they change nothing."""
        empty, console = Console(), console_of("new 7 1 - 0", "most 0 2 8")
        before = told(console)
        for command in commands:
            self.assertTrue(empty.run(command) == "bad command")
            self.assertTrue(console.run(command) == "bad command")
        self.assertEqual(empty.run("decide"), "no diary")
        self.assertEqual(told(console), before)
        self.assert_runs(console, ("undo", "ok"), ("undo", "nothing to undo"))

    def test_other_values(self):
        values = [None, LONG, tower("decide"), ["decide"], ("decide",), b"decide", ["new", "7", "1"], ("undo",) * 100000]
        self.assert_bad(*values, *no_integers())

    def test_other_words(self):
        self.assert_bad("", "x", "help", "decid", "decide!", "new", "news 7 1", "undo!", "calendar", "tell 0 1 2", "run",
                        "diary", "log", "would 0 1 2", "copy", "corrections", "7", "-", "0 1 2")

    def test_capital_letters(self):
        self.assert_bad("Decide", "DECIDE", "New 7 1", "NEW 7 1", "Undo", "MOST 0 1 2", "Gap 0 1", "gaP 0 1", "Weekdays 0")

    def test_empty_words(self):
        commands = ["new 7 1 -", "note 1 4"] + [name + " 1" * size for name, size in SIZES.items()]
        self.assert_bad(" ", "  ", "\n", "\n\n")
        for command in commands:
            self.assert_bad(" " + command, command + " ", command.replace(" ", "  ", 1) if " " in command else "undo  ",
                            command + "\n", "\n" + command, command.replace(" ", "\n", 1) + " x", command + "\t")

    def test_number_of_words(self):
        self.assert_bad("new", "new 7", "note", "note 1", "note 1 2 3", "note 1 - -", "note 1 - 0")
        for name, size in SIZES.items():
            for many in (0, 1, 2, 3, 4, 5, 1000):
                if many != size:
                    self.assert_bad(name + " 1" * many)

    def test_undated_where_it_is_not_allowed(self):
        self.assert_bad("new - 1", "new -", "new - -", "note - 1", "note - -", "note -")
        for name, size in SIZES.items():
            for spot in range(size):
                words = ["0"] * size
                words[spot] = "-"
                self.assert_bad(" ".join([name, *words]))
        self.assert_bad("undo -", "decide -")

    def test_no_integers(self):
        for wrong in NO_INTEGERS:
            self.assert_bad(f"new {wrong} 1", f"note {wrong} 1", f"note {wrong} -", f"most 0 1 {wrong}", f"least {wrong} 1 2")
            if wrong != "-":
                self.assert_bad(f"new 7 {wrong}", f"new 7 - {wrong}", f"new 7 {wrong} -", f"note 1 {wrong}")
            for name, size in SIZES.items():
                for spot in range(size):
                    self.assert_bad(" ".join([name] + ["0"] * spot + [wrong] + ["0"] * (size - spot - 1)))

    def test_long_commands(self):
        self.assert_bad("x" * 20000, " " * 20000, "new" * 6000, "undo " * 4000, "most" + " 1" * 9000, "new 7" + " x" * 9000)


class NoDiaryTest(ConsoleTestCase):
    def test_no_diary(self):
        console = Console()
        commands = ["note 1 4", "note 1 -", "note 99 99", "most 0 1 9999999999", "gap -1 -1", "weekdays 17",
                    "count 5 4", "count 9999999999 -9999999999", "least 0 0 0"]
        commands += [name + " 1" * size for name, size in SIZES.items()]
        for command in commands:
            self.assert_runs(console, (command, "no diary"))

    def test_new_that_fails(self):
        console = Console()
        self.assert_runs(console, ("new 1 0", "bad diary"), ("decide", "no diary"), ("new 7 7", "bad diary"),
                         ("undo", "no diary"), ("new 7 6", "ok"), ("decide", "calendar"))


class ErrorsTest(ConsoleTestCase):
    def assert_fails(self, console, *pairs):
        """Check commands that fail with these results, and that they change nothing."""
        before = told(console)
        self.assert_runs(console, *pairs)
        self.assertEqual(told(console), before)

    def setUp(self):
        super().setUp()
        self.console = console_of("new 7 1 - 0", "least 0 2 6", "most 0 1 3", "most 1 2 4")

    def tearDown(self):
        self.assertEqual(told(self.console), told(console_of("new 7 1 - 0", "least 0 2 6", "most 0 1 3", "most 1 2 4")))
        self.assert_runs(self.console, *[("undo", "ok")] * 3, ("undo", "nothing to undo"))

    def test_bad_diary(self):
        wrong = ["new 1 0", "new 101 0", "new 0 0", "new -7 0", "new 9999999999 0", "new 7 7", "new 7 -1", "new 7 - 0 9999999999",
                 "new 7" + " -" * 17, "new 7" + " 0" * 5000, "new 1" + " 9" * 17, "note 1 7", "note 1 -1", "note 0 9999999999"]
        self.assert_fails(self.console, *[(command, "bad diary") for command in wrong])

    def test_bad_event(self):
        wrong = ["most 3 0 0", "most 0 3 0", "most -1 0 0", "least 0 -1 0", "least 9999999999 0 0", "note 3 0", "note -1 -",
                 "note 3 9", "gap 1 0", "gap 1 1", "gap 3 0", "gap 0 3", "gap 0 -1", "gap 1 9", "weekdays 3", "weekdays -1",
                 "most 3 0 9999999999", "least 0 3 -9999999999"]
        self.assert_fails(self.console, *[(command, "bad event") for command in wrong])

    def test_bad_number(self):
        wrong = [f"{name} 0 1 {days}" for name in ("most", "least")
                 for days in (DAYS + 1, -DAYS - 1, 9999999999, -9999999999)]
        self.assert_fails(self.console, *[(command, "bad number") for command in wrong])

    def test_bad_window(self):
        wrong = ["count 1 0", "count 0 1001", "count 1000000001 1000000001", "count -1000000001 0", "count 0 -1",
                 "count 9999999999 0", "count 0 9999999999", "count 1000000000 1000001001"]
        self.assert_fails(self.console, *[(command, "bad window") for command in wrong])

    def test_no_calendar(self):
        console = console_of("new 7 1 - 0", "least 0 2 0", "most 0 2 5")
        self.assert_fails(console, ("gap 0 2", "no calendar"), ("gap 0 0", "no calendar"), ("weekdays 0", "no calendar"),
                          ("weekdays 1", "no calendar"), ("gap 1 0", "bad event"), ("gap 0 3", "bad event"),
                          ("weekdays 3", "bad event"), ("count 5 4", "bad window"), ("count 0 9", "0"))

    def test_nothing_to_undo(self):
        console = console_of("new 7 1 - 0")
        self.assert_fails(console, ("undo", "nothing to undo"), ("undo", "nothing to undo"))
        self.assert_runs(console, ("most 0 1 3", "ok"), ("undo", "ok"), ("undo", "nothing to undo"))

    def test_too_many_changes(self):
        console = console_of("new 7 1 - 0", *["most 0 1 300", "note 1 3"] * 24, "note 1 -")
        self.assert_runs(console, ("least 0 2 6", "ok"))
        self.assert_fails(console, *[(command, "too many changes") for command in ("most 0 1 3", "least 0 1 3", "note 1 3")],
                          ("most 0 3 0", "bad event"), ("most 0 1 9999999999", "bad number"), ("note 1 9", "bad diary"),
                          ("note 3 9", "bad event"))
        self.assert_runs(console, ("count 0 1000", "too many calendars"), ("undo", "ok"), ("note 1 4", "ok"),
                         ("note 1 4", "too many changes"), ("new 7 1", "ok"), ("note 0 4", "ok"))

    def test_too_many_calendars(self):
        console = console_of("new 7 - - -")
        self.assert_fails(console, ("count 0 9", "1000"), ("count 0 10", "too many calendars"),
                          ("count -5 995", "too many calendars"), ("count 0 1001", "bad window"))


class AnyCommandsTest(ConsoleTestCase):
    """A console agrees with a live diary and the functions that the table names."""

    def wanted(self, live, words):
        """Return the result of a command that is one by its form, and change the live diary like it."""
        values = [None if word == "-" else int(word) for word in words[1:]]
        try:
            return self.result(live, words[0], values)
        except (InvalidDiary, InvalidEvent, InvalidNumber, NoCalendar, NothingToUndo, LimitExceeded) as error:
            texts = {InvalidDiary: "bad diary", InvalidEvent: "bad event", InvalidNumber: "bad number",
                     NoCalendar: "no calendar", NothingToUndo: "nothing to undo", LimitExceeded: "too many changes"}
            return texts[type(error)]

    def result(self, live, word, values):
        if word in ("most", "least"):
            return live.tell(values[0], values[1], **{word: values[2]}) or "ok"
        if word == "note":
            return live.note(*values) or "ok"
        if word == "undo":
            return live.undo() or "ok"
        if word == "decide":
            return decide(live.diary)[0]
        if word == "weekdays":
            return " ".join(map(str, possible_weekdays(live.diary, *values)))
        if word == "gap":
            answers = least_gap(live.diary, *values), greatest_gap(live.diary, *values)
            return " ".join("open" if answer[0] == "open" else str(answer[1]) for answer in answers)
        try:
            return str(count_calendars(live.diary, *values))
        except LimitExceeded:
            return "too many calendars"

    def random_command(self, source, events):
        event = [str(source.randint(-1, events)) if source.random() < 0.05 else str(source.randrange(events)) for _ in "ab"]
        word = source.choice(("most", "least", "note", "undo", "decide", "gap", "weekdays", "count"))
        if word == "note":
            return [word, event[0], source.choice(("-", "0", "1", "2"))]
        if word == "count":
            low = source.randint(-5, 5)
            return [word, str(low), str(low + source.choice((0, 3, 7, 40)))]
        many = {"most": 2, "least": 2, "gap": 2, "weekdays": 1}.get(word, 0)
        days = [str(source.randint(-3, 8) if word == "most" else source.randint(-8, 3))] if many == 2 and word != "gap" else []
        return [word, *event[:many], *days]

    def test_any_commands(self):
        source = random.Random(131)
        seen = {}
        for _ in range(150):
            diary = small_diary(source)
            live = LiveDiary(Diary.of(diary.modulus, *diary.weekdays))
            weekdays = " ".join("-" if weekday is None else str(weekday) for weekday in diary.weekdays)
            console = console_of(f"new {diary.modulus} {weekdays}")
            for _ in range(40):
                words = self.random_command(source, len(diary))
                wanted = self.wanted(live, words)
                self.assert_runs(console, (" ".join(words), wanted))
                seen[wanted] = seen.get(wanted, 0) + 1
        for text in ("ok", "calendar", "ring", "loop", "open open", "0 0", "bad event", "bad diary", "no calendar",
                     "nothing to undo", "too many calendars"):
            self.assertGreater(seen[text], 15, text)


if __name__ == "__main__":
    unittest.main()
