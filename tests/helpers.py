"""What several tests need."""

import faulthandler
import sys
import unittest

from weekdaylegs.diaries import Diary

LONG = 10 ** 999
SECONDS = 120


def tower(part, levels=70):
    """Return a value that contains the part 2 ** levels times."""
    for _ in range(levels):
        part = (part, part)
    return part


class Odd:
    """An object that claims to be equal to everything."""

    def __eq__(self, other):
        return True

    def __hash__(self):
        return 0


def other_values():
    """Return values of every kind that are neither integers, None nor tuples."""
    return [
        True, False, "", "0", "calendar", b"", b"\x00", [], [0], [[0, 0, 0]], {}, {0: 0}, set(), {0}, frozenset(),
        range(3), object(), Odd(), Odd, int, tuple, len, lambda: 0, Diary.of(7, 0), ValueError("0"), Ellipsis,
        NotImplemented, (number for number in (0, 1)), iter((0, 1)), 1j,
    ]


def odd_tuples():
    """Return tuples with all kinds of items, some with very many parts."""
    return [
        (), (None,), (True,), ((),), ("0",), ([],), (0, (0, 0)), ((0, 0), 0), ([0, 0, 0],), tower(()), tower(0),
        tower([]), tower((0, 0, 0)), (tower(0),), (tower(0),) * 3, (0, tower(0), 0), (tower(0), 0, 0), (0, 0, tower(0)),
        ((tower(0), 0, 0),), ((0, 0, tower(())),), (Odd(), Odd(), Odd()), ((Odd(), Odd(), Odd()),),
    ]


def no_integers():
    """Return values that are no integers."""
    return [None] + other_values() + odd_tuples()


def calls_of(call, *args):
    """Return how many functions of Python are entered while this one is called."""
    entered = []
    sys.setprofile(lambda frame, event, _: entered.append(frame) if event == "call" else None)
    try:
        call(*args)
    finally:
        sys.setprofile(None)
    return len(entered)


class ProgramTestCase(unittest.TestCase):
    """A test that fails if it does not end.

    Values with very many parts cannot be written out, so no assertion here is
    given such a value: its message would never end.
    """

    def setUp(self):
        faulthandler.dump_traceback_later(SECONDS, exit=True)
        self.addCleanup(faulthandler.cancel_dump_traceback_later)

    def error(self, kind, call, *args, **named):
        """Return the error of this very class that a call raises."""
        with self.assertRaises(kind) as caught:
            call(*args, **named)
        self.assertTrue(type(caught.exception) is kind)
        return caught.exception

    def assert_fields(self, fields, kind, call, *args, **named):
        """Check that a call raises this error with these values in its fields."""
        self.assertEqual(vars(self.error(kind, call, *args, **named)), fields)

    def assert_value(self, kind, call, value, *args, **named):
        """Check that a call raises this error with this very object as its value."""
        error = self.error(kind, call, *args, **named)
        self.assertEqual(list(vars(error)), ["value"])
        self.assertTrue(error.value is value)
