"""Point 45: live and careful diaries."""

import random
import types
import unittest

from tests.gap_cases import DIARY, LOOP, RING, GapTestCase, no_events
from tests.helpers import LONG, other_values, odd_tuples, tower
from tests.samples import is_possible, large_diaries, small_diary
from weekdaylegs.decisions import has_calendar
from weekdaylegs.diaries import Diary
from weekdaylegs.errors import InvalidDiary, InvalidEvent, InvalidNumber, LimitExceeded, NoCalendar, NothingToUndo
from weekdaylegs.live import CarefulDiary, LiveDiary

DAYS = 10 ** 9
KINDS = (LiveDiary, CarefulDiary)
FULL = {"part": "bounds", "item": None}


def bounded(many):
    """Return a diary with a calendar and so many bounds."""
    return Diary(7, (1, None, 0), ((0, 1, 300),) * many)


def state(live):
    """Return all that can be read of a live diary."""
    return live.diary, live.is_possible, live.log, len(live), list(live.diaries())


def random_change(source, live):
    """Change a live diary in a random way, and return the change that the log should have."""
    events = len(live.diary)
    if source.random() < 0.3:
        event = source.randrange(events)
        weekday = source.choice((None, source.randrange(live.diary.modulus)))
        live.note(event, weekday)
        return "note", event, weekday
    first, second = source.randrange(events), source.randrange(events)
    least, most = source.choice((None, source.randint(-9, 5))), source.choice((None, source.randint(-5, 9)))
    live.tell(first, second, least=least, most=most)
    return "tell", first, second, least, most


def after(diary, change):
    """Return the diary after a change of the log."""
    if change[0] == "note":
        return diary.noting(*change[1:])
    return diary.between(change[1], change[2], least=change[3], most=change[4])


class LiveTestCase(GapTestCase):
    def assert_unchanged(self, live, kind, fields, call, *args, **named):
        """Check that a call raises this error and changes nothing."""
        before = state(live)
        self.assert_fields(fields, kind, call, *args, **named)
        self.assertEqual(state(live), before)

    def assert_refused(self, live, call, *args, **named):
        """Check that a call to a careful diary raises NoCalendar with a reason for the new diary and changes nothing."""
        before = state(live)
        other = LiveDiary(live.diary)
        getattr(other, call)(*args, **named)
        self.assert_reason(other.diary, getattr(live, call), *args, **named)
        self.assertEqual(state(live), before)


class ExampleTest(LiveTestCase):
    def test_example_of_the_document(self):
        live = CarefulDiary(Diary.of(7, 1, None, 0))
        live.tell(0, 2, least=6, most=6)
        live.tell(0, 1, most=3)
        found = live.would((1, 2, 2)), live.diary.bounds, live.is_possible, len(live)
        self.assertEqual(found, (False, ((2, 0, -6), (0, 2, 6), (0, 1, 3)), True, 2))

    def test_class_value(self):
        self.assertEqual((LiveDiary.MAX_CHANGES, CarefulDiary.MAX_CHANGES), (50, 50))
        self.assertEqual(LiveDiary(DIARY).MAX_CHANGES, 50)

    def test_a_careful_diary_is_a_live_diary(self):
        self.assertEqual(CarefulDiary.__bases__, (LiveDiary,))
        self.assertIsInstance(CarefulDiary(DIARY), LiveDiary)
        self.assertEqual(LiveDiary.__bases__, (object,))


class BeginTest(LiveTestCase):
    def test_begin(self):
        for kind in KINDS:
            for live in (kind(DIARY), kind(diary=DIARY)):
                self.assertTrue(live.diary is DIARY)
                self.assertEqual(state(live), (DIARY, True, (), 0, [DIARY]))
                self.assertIs(live.is_possible, True)

    def test_a_live_diary_begins_without_a_calendar(self):
        for diary in (RING, LOOP):
            self.assertEqual(state(LiveDiary(diary)), (diary, False, (), 0, [diary]))
            self.assertIs(LiveDiary(diary).is_possible, False)

    def test_a_careful_diary_does_not(self):
        for diary in (RING, LOOP):
            self.assert_reason(diary, CarefulDiary, diary)
            self.assert_reason(diary, CarefulDiary, diary=diary)

    def test_what_is_read_cannot_be_set(self):
        for kind in KINDS:
            for name in ("diary", "is_possible", "log"):
                with self.assertRaises(AttributeError):
                    setattr(kind(DIARY), name, None)


class ChangeTest(LiveTestCase):
    def test_tell(self):
        for kind in KINDS:
            live = kind(Diary.of(7, 1, None, 0))
            diary = live.diary
            for named in ({"least": 6}, {"most": 8}, {"least": -1, "most": 20}, {"most": 9, "least": 2}, {},
                          {"least": None}, {"most": None}, {"least": None, "most": 30}, {"least": -DAYS, "most": DAYS}):
                self.assertIsNone(live.tell(0, 2, **named))
                diary = diary.between(0, 2, **named)
                self.assertEqual(live.diary, diary)
            self.assertEqual(live.log, (
                ("tell", 0, 2, 6, None), ("tell", 0, 2, None, 8), ("tell", 0, 2, -1, 20), ("tell", 0, 2, 2, 9),
                ("tell", 0, 2, None, None), ("tell", 0, 2, None, None), ("tell", 0, 2, None, None),
                ("tell", 0, 2, None, 30), ("tell", 0, 2, -DAYS, DAYS),
            ))
            self.assertEqual((len(live), live.is_possible), (9, True))

    def test_tell_by_name(self):
        for kind in KINDS:
            live = kind(Diary.of(7, 1, None, 0))
            self.assertIsNone(live.tell(second=1, most=3, first=0, least=1))
            self.assertEqual((live.log, live.diary.bounds), ((("tell", 0, 1, 1, 3),), ((1, 0, -1), (0, 1, 3))))
            with self.assertRaises(TypeError):
                live.tell(0, 1, 1, 3)
            self.assertEqual(len(live), 1)

    def test_tell_two_equal_events(self):
        for kind in KINDS:
            live = kind(DIARY)
            live.tell(1, 1, least=-2, most=0)
            self.assertEqual((live.diary, live.log), (DIARY.adding((1, 1, 2), (1, 1, 0)), (("tell", 1, 1, -2, 0),)))

    def test_note(self):
        for kind in KINDS:
            live = kind(DIARY)
            self.assertIsNone(live.note(1, 4))
            self.assertIsNone(live.note(weekday=None, event=0))
            self.assertIsNone(live.note(1, 4))
            self.assertIsNone(live.note(1, None))
            self.assertIsNone(live.note(1, None))
            self.assertEqual(live.diary, Diary(7, (None, None, 0), DIARY.bounds))
            self.assertEqual(live.log, (
                ("note", 1, 4), ("note", 0, None), ("note", 1, 4), ("note", 1, None), ("note", 1, None),
            ))
            self.assertEqual([diary.weekdays for diary in live.diaries()], [
                (1, None, 0), (1, 4, 0), (None, 4, 0), (None, 4, 0), (None, None, 0), (None, None, 0),
            ])

    def test_the_first_diary_stays_as_it_was(self):
        first = Diary(7, (1, None, 0), DIARY.bounds)
        for kind in KINDS:
            live = kind(first)
            live.tell(0, 1, most=20)
            live.note(1, 3)
            self.assertEqual(first, DIARY)
            self.assertEqual(list(live.diaries()), [DIARY, DIARY.adding((0, 1, 20)), live.diary])

    def test_a_live_diary_can_lose_its_calendar_and_get_it_back(self):
        live = LiveDiary(DIARY)
        live.tell(0, 2, least=7)
        self.assertIs(live.is_possible, False)
        live.tell(0, 1, most=300)
        self.assertIs(live.is_possible, False)
        live.note(2, None)
        self.assertIs(live.is_possible, True)
        for possible in (False, False, True):
            live.undo()
            self.assertIs(live.is_possible, possible)
        self.assertEqual(live.diary, DIARY)

    def test_any_changes(self):
        source = random.Random(111)
        seen = {True: 0, False: 0}
        for _ in range(60):
            live = LiveDiary(small_diary(source))
            diaries, log = [live.diary], []
            for _ in range(source.randint(0, 12)):
                log.append(random_change(source, live))
                diaries.append(after(diaries[-1], log[-1]))
                possible = is_possible(diaries[-1])
                seen[possible] += 1
                self.assertEqual(state(live), (diaries[-1], possible, tuple(log), len(log), diaries))
            while log:
                live.undo()
                log.pop()
                diaries.pop()
                self.assertEqual(state(live), (diaries[-1], is_possible(diaries[-1]), tuple(log), len(log), diaries))
        self.assertGreater(min(seen.values()), 50)


class ErrorsTest(LiveTestCase):
    def test_wrong_events(self):
        for kind in KINDS:
            live = kind(DIARY)
            for value in no_events(DIARY):
                for call, args, named in (
                    (live.tell, (value, 0), {}), (live.tell, (value, "x"), {"least": "x", "most": DAYS}),
                    (live.tell, (0, value), {}), (live.tell, (), {"second": value, "first": 1, "most": "x"}),
                    (live.note, (value, 0), {}), (live.note, (value, "x"), {}),
                    (live.note, (), {"weekday": None, "event": value}),
                ):
                    self.assert_value(InvalidEvent, call, value, *args, **named)
            self.assertEqual(state(live), (DIARY, True, (), 0, [DIARY]))

    def test_wrong_days(self):
        for kind in KINDS:
            for diary in (DIARY, bounded(60)):
                live = kind(diary)
                for value in [DAYS + 1, -DAYS - 1, LONG, -LONG, tower(0)] + other_values() + odd_tuples():
                    self.assert_value(InvalidNumber, live.tell, value, 0, 1, least=value)
                    self.assert_value(InvalidNumber, live.tell, value, 0, 1, least=value, most="x")
                    self.assert_value(InvalidNumber, live.tell, value, 0, 1, least=-1, most=value)
                self.assertEqual(state(live), (diary, True, (), 0, [diary]))

    def test_wrong_weekdays(self):
        for kind in KINDS:
            live = kind(DIARY)
            for value in [-1, 7, LONG, -LONG, tower(0)] + other_values() + odd_tuples():
                for event in range(3):
                    self.assert_fields({"part": "weekdays", "item": event}, InvalidDiary, live.note, event, value)
            self.assertEqual(state(live), (DIARY, True, (), 0, [DIARY]))

    def test_number_of_bounds(self):
        for kind in KINDS:
            live = kind(bounded(58))
            live.tell(0, 1, least=-300, most=300)
            self.assertEqual(len(live.diary.bounds), 60)
            self.assert_unchanged(live, InvalidDiary, FULL, live.tell, 0, 1, least=0)
            live = kind(bounded(59))
            self.assert_unchanged(live, InvalidDiary, FULL, live.tell, 0, 1, least=0, most=0)
            live.tell(0, 1, most=299)
            self.assert_unchanged(live, InvalidDiary, FULL, live.tell, 0, 1, most=0)
            live = kind(bounded(60))
            self.assert_unchanged(live, InvalidDiary, FULL, live.tell, 0, 1, least=0)
            live.tell(0, 1)
            live.note(1, 3)
            self.assertEqual(len(live), 2)

    def test_number_of_changes(self):
        for kind in KINDS:
            live = kind(DIARY)
            for number in range(49):
                live.note(1, 3 + number % 2)
            self.assertEqual(len(live), 49)
            live.tell(0, 1)
            self.assertEqual(len(live), 50)
            limit = {"limit": 50}
            self.assert_unchanged(live, LimitExceeded, limit, live.tell, 0, 1)
            self.assert_unchanged(live, LimitExceeded, limit, live.tell, 0, 1, most=30)
            self.assert_unchanged(live, LimitExceeded, limit, live.note, 1, None)
            live.undo()
            live.note(1, 3)
            self.assert_unchanged(live, LimitExceeded, limit, live.note, 1, None)
            for number in reversed(range(50)):
                live.undo()
                self.assertEqual(len(live), number)
            self.assertEqual(state(live), (DIARY, True, (), 0, [DIARY]))

    def test_limit_comes_after_other_errors(self):
        for kind in KINDS:
            live = kind(bounded(60))
            for _ in range(50):
                live.tell(0, 1)
            self.assert_value(InvalidEvent, live.tell, 3, 3, 4)
            self.assert_value(InvalidEvent, live.note, 3, 3, 9)
            self.assert_value(InvalidNumber, live.tell, "x", 0, 1, most="x")
            self.assert_unchanged(live, InvalidDiary, FULL, live.tell, 0, 1, most=0)
            self.assert_unchanged(live, InvalidDiary, {"part": "weekdays", "item": 1}, live.note, 1, 7)
            self.assert_unchanged(live, LimitExceeded, {"limit": 50}, live.tell, 0, 1)

    def test_limit_comes_before_no_calendar(self):
        live = CarefulDiary(DIARY)
        for _ in range(49):
            live.tell(0, 1)
        self.assert_refused(live, "tell", 0, 2, least=7)
        live.tell(0, 1)
        self.assert_unchanged(live, LimitExceeded, {"limit": 50}, live.tell, 0, 2, least=7)
        self.assert_unchanged(live, LimitExceeded, {"limit": 50}, live.note, 0, 2)

    def test_a_careful_diary_refuses(self):
        live = CarefulDiary(DIARY)
        self.assert_refused(live, "tell", 0, 2, least=7)
        self.assert_refused(live, "tell", 0, 2, most=5)
        self.assert_refused(live, "tell", first=0, second=1, least=4, most=3)
        self.assert_refused(live, "tell", 1, 1, most=-1)
        self.assert_refused(live, "tell", 0, 0, least=1)
        self.assert_refused(live, "note", 0, 2)
        self.assert_refused(live, "note", weekday=5, event=1)
        live.tell(0, 1, most=2)
        self.assert_refused(live, "note", 1, 4)
        live.undo()
        live.note(1, 4)
        self.assert_refused(live, "tell", 0, 1, most=2)
        self.assertEqual(live.log, (("note", 1, 4),))

    def test_other_errors_come_before_no_calendar(self):
        live = CarefulDiary(bounded(60))
        self.assert_unchanged(live, InvalidDiary, FULL, live.tell, 0, 0, most=-1)
        self.assert_unchanged(live, InvalidDiary, FULL, live.tell, 0, 1, least=9, most=8)
        self.assert_value(InvalidNumber, live.tell, "x", 0, 0, least=1, most="x")
        self.assert_value(InvalidEvent, live.tell, 3, 3, 3, most=-1)


class WouldTest(LiveTestCase):
    def test_any_number_of_bounds(self):
        for kind in KINDS:
            live = kind(DIARY)
            before = state(live)
            self.assertIs(live.would(), True)
            self.assertIs(live.would((1, 2, 3)), True)
            self.assertIs(live.would((1, 2, 2)), False)
            self.assertIs(live.would((1, 2, 3), (0, 1, 3)), True)
            self.assertIs(live.would((1, 2, 3), (1, 0, -2)), True)
            self.assertIs(live.would((0, 1, 2), (1, 2, 3)), False)
            self.assertIs(live.would((0, 1, 3), (1, 2, 3), (1, 0, -3), (2, 1, -3)), True)
            self.assertIs(live.would(*[(0, 1, 3)] * 57), True)
            self.assertIs(live.would(*[(0, 1, 3)] * 56, (0, 0, -1)), False)
            self.assertEqual(state(live), before)

    def test_a_diary_that_has_no_calendar_already(self):
        for diary in (RING, LOOP):
            live = LiveDiary(diary)
            for bounds in ((), ((0, 1, 100),), ((0, 1, 0), (1, 0, 0))):
                self.assertIs(live.would(*bounds), False)
            self.assertEqual(state(live), (diary, False, (), 0, [diary]))

    def test_errors(self):
        wrong = [None, 0, (0, 0), (0, 3, 0), (0, 0, True), [0, 0, 0], (0, 0, DAYS + 1), (-1, 0, 0), tower(0)]
        for kind in KINDS:
            live = kind(DIARY)
            for value in wrong + other_values() + odd_tuples():
                self.assert_unchanged(live, InvalidDiary, {"part": "bounds", "item": 3}, live.would, value)
                fields = {"part": "bounds", "item": 4}
                self.assert_unchanged(live, InvalidDiary, fields, live.would, (0, 0, -1), value, value)
            self.assert_unchanged(live, InvalidDiary, FULL, live.would, *[(0, 1, 3)] * 58)
            self.assert_unchanged(live, InvalidDiary, FULL, live.would, *[None] * 58)
            live.tell(0, 1, least=-300, most=300)
            self.assert_unchanged(live, InvalidDiary, {"part": "bounds", "item": 5}, live.would, (0, 0, "x"))

    def test_the_number_of_changes_is_no_limit(self):
        for kind in KINDS:
            live = kind(DIARY)
            for _ in range(50):
                live.tell(0, 1)
            self.assertIs(live.would((1, 2, 3)), True)
            self.assertIs(live.would((1, 2, 2)), False)
            self.assertEqual(len(live), 50)

    def test_would_agrees_with_what_is_told(self):
        source = random.Random(112)
        seen = {True: 0, False: 0}
        for _ in range(200):
            live = LiveDiary(small_diary(source))
            for _ in range(4):
                events = len(live.diary)
                first, second, most = source.randrange(events), source.randrange(events), source.randint(-8, 8)
                wanted = live.would((first, second, most))
                live.tell(first, second, most=most)
                self.assertIs(live.is_possible, wanted)
                self.assertIs(is_possible(live.diary), wanted)
                seen[wanted] += 1
        self.assertGreater(min(seen.values()), 100)


class UndoTest(LiveTestCase):
    def test_nothing_to_undo(self):
        for kind in KINDS:
            live = kind(DIARY)
            for _ in range(2):
                self.assert_unchanged(live, NothingToUndo, {}, live.undo)
                live.note(1, 3)
                self.assertIsNone(live.undo())
            self.assert_unchanged(live, NothingToUndo, {}, live.undo)

    def test_the_latest_change_first(self):
        for kind in KINDS:
            live = kind(DIARY)
            states = [state(live)]
            for most in (30, 20, 10):
                live.tell(0, 1, most=most)
                states.append(state(live))
            live.note(1, 3)
            for number in (3, 2, 1):
                self.assertIsNone(live.undo())
                self.assertEqual(state(live), states[number])
            live.note(1, 4)
            self.assertEqual(live.log, (("tell", 0, 1, None, 30), ("note", 1, 4)))

    def test_a_refused_change_is_not_one_to_undo(self):
        live = CarefulDiary(DIARY)
        live.note(1, 3)
        self.assert_refused(live, "tell", 0, 2, least=7)
        live.undo()
        self.assert_unchanged(live, NothingToUndo, {}, live.undo)


class DiariesTest(LiveTestCase):
    def test_yields_one_by_one(self):
        for kind in KINDS:
            live = kind(DIARY)
            live.note(1, 3)
            live.tell(0, 1)
            found = live.diaries()
            self.assertIsInstance(found, types.GeneratorType)
            self.assertTrue(next(found) is DIARY)
            self.assertEqual(list(found), [DIARY.noting(1, 3), DIARY.noting(1, 3)])
            self.assertIsNone(next(found, None))

    def test_again_after_undoing(self):
        for kind in KINDS:
            live = kind(DIARY)
            live.note(1, 3)
            live.undo()
            self.assertEqual(list(live.diaries()), [DIARY])
            live.note(1, 4)
            self.assertEqual(list(live.diaries()), [DIARY, DIARY.noting(1, 4)])

    def test_ends_also_if_the_diary_changes_meanwhile(self):
        for kind in KINDS:
            live = kind(DIARY)
            for diary in live.diaries():
                self.assertIsInstance(diary, Diary)
                live.tell(0, 1)
            self.assertGreater(len(live), 0)


class CopyTest(LiveTestCase):
    def test_copy(self):
        for kind in KINDS:
            live = kind(DIARY)
            for change in range(4):
                found = live.copy()
                self.assertIs(type(found), kind)
                self.assertFalse(found is live)
                self.assertTrue(found == live)
                self.assertEqual(state(found), state(live))
                live.note(1, (3, 4, None, 3)[change])

    def test_changes_of_one_have_no_effect_on_the_other(self):
        for kind in KINDS:
            live = kind(DIARY)
            live.note(1, 3)
            before = state(live)
            found = live.copy()
            found.tell(0, 1, most=20)
            self.assertEqual(state(live), before)
            found.undo()
            found.undo()
            self.assertEqual(state(live), before)
            self.assertEqual(state(found), (DIARY, True, (), 0, [DIARY]))
            found = live.copy()
            live.undo()
            live.note(1, 4)
            live.tell(0, 1)
            self.assertEqual(state(found), before)

    def test_copies_have_the_same_limit(self):
        for kind in KINDS:
            live = kind(DIARY)
            for _ in range(48):
                live.tell(0, 1)
            found = live.copy().copy()
            for one in (found, live):
                one.tell(0, 1)
                one.note(1, 3)
                self.assert_unchanged(one, LimitExceeded, {"limit": 50}, one.tell, 0, 1)
            self.assert_unchanged(found.copy(), LimitExceeded, {"limit": 50}, found.copy().tell, 0, 1)

    def test_a_copy_without_a_calendar(self):
        live = LiveDiary(RING)
        live.tell(0, 1)
        self.assertEqual(state(live.copy()), (RING, False, (("tell", 0, 1, None, None),), 1, [RING, RING]))

    def test_a_copy_of_a_careful_diary_is_careful(self):
        live = CarefulDiary(DIARY)
        live.note(1, 3)
        found = live.copy()
        self.assert_refused(found, "tell", 0, 2, least=7)
        self.assert_refused(found, "note", 0, 3)
        found.undo()
        self.assert_unchanged(found, NothingToUndo, {}, found.undo)


class EqualTest(LiveTestCase):
    def assert_equal(self, one, other):
        self.assertIs(one == other, True)
        self.assertIs(other == one, True)
        self.assertIs(one != other, False)

    def assert_unequal(self, one, other):
        self.assertIs(one == other, False)
        self.assertIs(other == one, False)
        self.assertIs(one != other, True)

    def test_equal(self):
        for kind in KINDS:
            one, other = kind(DIARY), kind(Diary(7, (1, None, 0), DIARY.bounds))
            self.assert_equal(one, one)
            self.assert_equal(one, other)
            one.note(1, 3)
            self.assert_unequal(one, other)
            other.note(1, 3)
            self.assert_equal(one, other)
            one.undo()
            self.assert_unequal(one, other)
            other.undo()
            self.assert_equal(one, other)

    def test_other_diaries(self):
        for kind in KINDS:
            for diary in (Diary.of(7, 1, None, 0), DIARY.noting(1, 3), DIARY.adding((0, 1, 3))):
                self.assert_unequal(kind(DIARY), kind(diary))
            # The same change of different diaries.
            one, other = kind(DIARY), kind(DIARY.adding((0, 1, 3)))
            one.note(1, 3)
            other.note(1, 3)
            self.assert_unequal(one, other)

    def test_only_the_logs_differ(self):
        for kind in KINDS:
            one, other = kind(DIARY), kind(DIARY)
            one.tell(0, 1)
            self.assert_unequal(one, other)
            other.tell(0, 2)
            self.assert_unequal(one, other)
            one, other = kind(DIARY), kind(DIARY)
            one.tell(0, 1, most=3)
            one.tell(0, 2, most=9)
            other.tell(0, 1, most=3)
            other.tell(2, 0, least=-9)
            self.assertEqual(one.diary, other.diary)
            self.assert_unequal(one, other)

    def test_only_the_classes_differ(self):
        class Other(LiveDiary):
            pass

        self.assert_unequal(LiveDiary(DIARY), CarefulDiary(DIARY))
        self.assert_unequal(LiveDiary(DIARY), Other(DIARY))
        self.assert_unequal(CarefulDiary(DIARY), Other(DIARY))
        self.assert_equal(Other(DIARY), Other(DIARY))

    def test_diaries_that_began_differently(self):
        for kind in KINDS:
            one, other = kind(DIARY.noting(1, 3)), kind(DIARY.noting(1, 4))
            one.note(1, None)
            other.note(1, None)
            self.assertNotEqual(list(one.diaries()), list(other.diaries()))
            self.assert_equal(one, other)
            one.undo()
            other.undo()
            self.assert_unequal(one, other)

    def test_other_values(self):
        for kind in KINDS:
            live = kind(DIARY)
            for value in [None, 0, DIARY, (), (DIARY, ()), live.log, tower(())] + other_values() + odd_tuples():
                self.assertIs(live == value, False)
                self.assertIs(live != value, True)


class LargeDiariesTest(LiveTestCase):
    def test_large_diaries(self):
        source = random.Random(113)
        refused = 0
        for diary, days in large_diaries(source, 25):
            start = Diary(diary.modulus, diary.weekdays, diary.bounds[:10])
            live, careful = LiveDiary(start), CarefulDiary(start)
            for a, b, w in diary.bounds[10:]:
                if source.random() < 0.2:
                    w = w - source.randint(1, diary.modulus)
                wanted = careful.would((a, b, w))
                live.tell(a, b, most=w)
                self.assertIs(live.is_possible, has_calendar(live.diary))
                if wanted:
                    careful.tell(a, b, most=w)
                else:
                    refused += 1
                    self.assert_refused(careful, "tell", a, b, most=w)
                self.assertIs(careful.is_possible, True)
        self.assertGreater(refused, 10)

    def test_refusals_are_no_calendar_errors(self):
        with self.assertRaises(NoCalendar):
            CarefulDiary(DIARY).tell(1, 1, most=-1)


if __name__ == "__main__":
    unittest.main()
