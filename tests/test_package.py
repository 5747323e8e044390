"""The interface: where its names are defined, and with which parameters."""

import doctest
import inspect
import pathlib
import unittest

import weekdaylegs
from weekdaylegs import (
    certainty, console, corrections, decisions, diaries, errors, gaps, joining, legs, live, texts, windows,
)

FUNCTIONS = {
    diaries: {"check_calendar": "(diary, days)", "is_calendar": "(diary, days)"},
    decisions: {"has_calendar": "(diary)", "decide": "(diary)", "check_decision": "(diary, answer)"},
    gaps: {
        "greatest_gap": "(diary, first, second)",
        "least_gap": "(diary, first, second)",
        "check_greatest": "(diary, first, second, answer)",
        "check_least": "(diary, first, second, answer)",
        "weekday_range": "(diary, first, second, weekday)",
        "is_possible_gap": "(diary, first, second, days)",
        "possible_gaps": "(diary, first, second, *, start=0, many=10)",
    },
    certainty: {"sure_gaps": "(diary, first)", "possible_weekdays": "(diary, event)"},
    corrections: {"corrections": "(diary)", "removals": "(diary)"},
    windows: {
        "calendars": "(diary, low, high, *, start=0)",
        "count_calendars": "(diary, low, high)",
        "calendar_by_rank": "(diary, low, high, rank)",
        "rank_of": "(diary, low, high, days)",
    },
    joining: {"joined": "(one, other, *pairs)"},
    texts: {"diary_text": "(diary)", "read_diary": "(text)"},
}
METHODS = {
    diaries.Diary: {
        "__init__": "(self, modulus, weekdays, bounds)",
        "is_diary": "(modulus, weekdays, bounds)",
        "limits": "()",
        "__len__": "(self)",
        "__eq__": "(self, other)",
        "event": "(self, number)",
        "events": "(self)",
        "need_event": "(self, event)",
        "adding": "(self, *bounds)",
        "noting": "(self, event, weekday)",
        "between": "(self, first, second, *, least=None, most=None)",
        "mirrored": "(self)",
        "shifted": "(self, days)",
    },
    diaries.Event: {"latest": "(self, day)", "fits": "(self, day)", "choices": "(self)"},
    diaries.DatedEvent: {},
    diaries.UndatedEvent: {},
    legs.Walk: {
        "__init__": "(self, diary, *numbers)",
        "__len__": "(self)",
        "__eq__": "(self, other)",
        "most": "(self)",
    },
    legs.Leg: {"__init__": "(self, diary, *numbers)", "most": "(self)"},
    legs.Loop: {"__init__": "(self, diary, *numbers)"},
    live.LiveDiary: {
        "__init__": "(self, diary)",
        "__len__": "(self)",
        "__eq__": "(self, other)",
        "tell": "(self, first, second, *, least=None, most=None)",
        "note": "(self, event, weekday)",
        "would": "(self, *bounds)",
        "undo": "(self)",
        "diaries": "(self)",
        "copy": "(self)",
    },
    live.CarefulDiary: {
        "__init__": "(self, diary)",
        "tell": "(self, first, second, *, least=None, most=None)",
        "note": "(self, event, weekday)",
        "copy": "(self)",
    },
    console.Console: {"__init__": "(self)", "run": "(self, command)"},
}
PROPERTIES = {
    diaries.Diary: ("modulus", "weekdays", "bounds"),
    diaries.Event: ("number",),
    diaries.DatedEvent: ("weekday",),
    legs.Walk: ("diary", "numbers", "stops", "total"),
    live.LiveDiary: ("diary", "is_possible", "log"),
}
CLASSES = {
    errors: ("WeekdaylegsError", "InvalidDiary", "InvalidEvent", "InvalidDays", "InvalidWalk", "InvalidNumber",
             "InvalidAnswer", "NoCalendar", "InvalidWindow", "InvalidRank", "LimitExceeded", "Mismatch", "NothingToUndo",
             "ParseError"),
    diaries: ("Diary", "Event", "DatedEvent", "UndatedEvent"),
    legs: ("Walk", "Leg", "Loop"),
    live: ("LiveDiary", "CarefulDiary"),
    console: ("Console",),
}


class InterfaceTest(unittest.TestCase):
    def test_functions(self):
        for module, functions in FUNCTIONS.items():
            for name, parameters in functions.items():
                found = getattr(module, name)
                self.assertEqual(found.__module__, module.__name__)
                self.assertEqual(str(inspect.signature(found)), parameters, name)

    def test_classes(self):
        for module, names in CLASSES.items():
            for name in names:
                self.assertEqual(getattr(module, name).__module__, module.__name__)

    def test_methods_stand_in_their_class(self):
        for owner, methods in METHODS.items():
            for name, parameters in methods.items():
                self.assertIn(name, vars(owner))
                self.assertEqual(str(inspect.signature(getattr(owner, name))), parameters, name)

    def test_static_and_class_methods(self):
        self.assertIsInstance(vars(diaries.Diary)["is_diary"], staticmethod)
        self.assertIsInstance(vars(diaries.Diary)["limits"], staticmethod)
        self.assertIsInstance(vars(diaries.Diary)["of"], classmethod)
        self.assertEqual(str(inspect.signature(diaries.Diary.of)), "(modulus, *weekdays)")

    def test_properties(self):
        for owner, names in PROPERTIES.items():
            for name in names:
                self.assertIsInstance(vars(owner)[name], property, name)


class FilesTest(unittest.TestCase):
    def test_sizes_and_characters(self):
        folder = pathlib.Path(weekdaylegs.__file__).parent
        for path in folder.glob("*.py"):
            text = path.read_text(encoding="ascii")
            self.assertNotIn("\t", text)
            self.assertLessEqual(text.count("\n"), 399, path.name)
            self.assertLessEqual(max(map(len, text.split("\n"))), 120, path.name)

    def test_examples_of_the_readme(self):
        path = pathlib.Path(weekdaylegs.__file__).parent.parent / "README.md"
        failed, tried = doctest.testfile(str(path), module_relative=False)
        self.assertEqual(failed, 0)
        self.assertGreater(tried, 5)


if __name__ == "__main__":
    unittest.main()
