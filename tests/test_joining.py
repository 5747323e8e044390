"""Points 40 and 41: joined diaries."""

import random
import unittest

from tests.helpers import LONG, Odd, ProgramTestCase, no_integers, tower
from tests.samples import all_days, has_negative_loop, is_possible, small_diary
from weekdaylegs.decisions import check_decision, decide, has_calendar
from weekdaylegs.diaries import Diary, is_calendar
from weekdaylegs.errors import InvalidDiary, LimitExceeded, Mismatch
from weekdaylegs.joining import joined
from weekdaylegs.windows import calendars, count_calendars

ONE = Diary(7, (1, None), ((0, 1, 3),))
OTHER = Diary(7, (None, 4), ((0, 1, 2),))


def merged(many, days, more, pairs):
    """Return a calendar of the joined diary made of one of each diary, or None if they do not agree."""
    if any(days[i] != more[j] for i, j in pairs):
        return None
    shared = [j for _, j in pairs]
    return days + tuple(day for event, day in enumerate(more) if event not in shared)


def random_pairs(source, one, other, many):
    """Return so many pairs of different events, or fewer if there are not enough of them."""
    many = min(many, len(one), len(other))
    return tuple(zip(source.sample(range(len(one)), many), source.sample(range(len(other)), many)))


def two_diaries(source, sizes=(1, 2, 3), pairs=3):
    """Return two small diaries of one modulus and pairs of events whose weekdays do not contradict each other."""
    while True:
        one, other = small_diary(source), small_diary(source)
        found = random_pairs(source, one, other, source.randint(0, pairs))
        if one.modulus == other.modulus and len(one) in sizes and len(other) in sizes:
            if all(noted(one, i) in (None, noted(other, j)) or noted(other, j) is None for i, j in found):
                return one, other, found


def noted(diary, event):
    return diary.weekdays[event]


class JoinedTest(ProgramTestCase):
    def assert_joined(self, weekdays, bounds, one, other, *pairs):
        """Check the joined diary, and that the two stay as they were."""
        before = [(diary.modulus, diary.weekdays, diary.bounds) for diary in (one, other)]
        self.assertEqual(joined(one, other, *pairs), Diary(one.modulus, weekdays, bounds))
        self.assertEqual([(diary.modulus, diary.weekdays, diary.bounds) for diary in (one, other)], before)

    def test_example_of_the_document(self):
        found = joined(ONE, OTHER, (1, 1))
        self.assertEqual((found.weekdays, found.bounds), ((1, 4, None), ((0, 1, 3), (2, 1, 2))))
        self.assertIs(type(found), Diary)

    def test_no_pair(self):
        self.assert_joined((1, None, None, 4), ((0, 1, 3), (2, 3, 2)), ONE, OTHER)
        self.assertEqual(joined(other=OTHER, one=ONE), joined(ONE, OTHER))
        self.assert_joined((None, None), (), Diary.of(2, None), Diary.of(2, None))

    def test_one_pair(self):
        self.assert_joined((1, None, 4), ((0, 1, 3), (0, 2, 2)), ONE, OTHER, (0, 0))
        self.assert_joined((1, None, 4), ((0, 1, 3), (1, 2, 2)), ONE, OTHER, (1, 0))
        self.assert_joined((1, 4, None), ((0, 1, 3), (2, 1, 2)), ONE, OTHER, (1, 1))

    def test_a_shared_event_has_the_weekday_that_one_notes(self):
        for first, second, both in ((None, None, None), (3, None, 3), (None, 3, 3), (3, 3, 3), (0, None, 0), (None, 0, 0)):
            self.assert_joined((both,), (), Diary.of(7, first), Diary.of(7, second), (0, 0))
            self.assert_joined((5, both, 6), (), Diary.of(7, 5, first), Diary.of(7, second, 6), (1, 0))

    def test_several_pairs(self):
        one = Diary(9, (1, None, 3, None), ((0, 3, -5), (1, 1, 0)))
        other = Diary(9, (None, 5, None, 3, 8), ((0, 1, 1), (1, 2, 2), (2, 3, 3), (3, 4, 4), (4, 0, 5)))
        self.assert_joined((1, 5, 3, None, None, 3, 8), one.bounds + ((4, 1, 1), (1, 3, 2), (3, 5, 3), (5, 6, 4), (6, 4, 5)),
                           one, other, (3, 2), (1, 1))
        self.assert_joined((1, 8, 3, 5, None, None), one.bounds + ((4, 3, 1), (3, 5, 2), (5, 2, 3), (2, 1, 4), (1, 4, 5)),
                           one, other, (3, 1), (1, 4), (2, 3))

    def test_as_many_pairs_as_events(self):
        one = Diary(7, (1, None, None), ((0, 1, 3),))
        other = Diary(7, (None, 4, None), ((0, 1, 2), (2, 0, 9)))
        self.assert_joined((1, None, 4), ((0, 1, 3), (1, 2, 2), (0, 1, 9)), one, other, (0, 2), (1, 0), (2, 1))
        whole = Diary(7, tuple(range(7)) + (None,) * 9, tuple((event, 15 - event, event) for event in range(16)))
        self.assert_joined(whole.weekdays, whole.bounds * 2, whole, whole, *[(event, event) for event in range(16)])

    def test_bounds_may_come_twice(self):
        self.assert_joined((1, None), ((0, 1, 3), (0, 1, 3)), ONE, ONE, (0, 0), (1, 1))
        self.assert_joined((1, None, None), ((0, 1, 3), (0, 2, 3)), ONE, ONE, (0, 0))

    def test_greatest_diaries(self):
        one = Diary(100, (99,) * 8, ((0, 1, 10 ** 9),) * 30)
        other = Diary(100, (None,) * 9, ((8, 0, -10 ** 9),) * 30)
        self.assert_joined((99,) * 8 + (None,) * 8, one.bounds + ((0, 8, -10 ** 9),) * 30, one, other, (0, 8))


class ErrorsTest(ProgramTestCase):
    def assert_mismatch(self, part, spot, one, other, *pairs):
        self.assert_fields({"part": part, "spot": spot}, Mismatch, joined, one, other, *pairs)

    def test_modulus(self):
        for other in (Diary.of(8, 1), Diary(100, (None,) * 16, ((0, 0, 0),) * 60), Diary.of(2, 1)):
            for pairs in ((), ((0, 0),), ((5, 5),), (None,), (tower(0), 3)):
                self.assert_mismatch("modulus", None, ONE, other, *pairs)
                self.assert_mismatch("modulus", None, other, ONE, *pairs)
        self.assert_fields({"part": "modulus", "spot": None}, Mismatch, joined, other=Diary.of(8, 1), one=ONE)

    def test_no_pair_of_events(self):
        values = [None, 0, LONG, (0,), (0, 0, 0), [0, 0], (2, 0), (0, 2), (-1, 0), (0, -1), (LONG, 0), (0, -LONG), ((0, 0),)]
        values += [(True, 0), (0, True), (False, 0), (0, False), (0, None), (None, 0), ("0", 0), (0, "0"), (Odd(), Odd())]
        values += [tower(1), (0, tower(0)), (tower(0), 0), ([0], 0), (0, (0,))]
        for value in values + no_integers():
            self.assert_mismatch("pair", 0, ONE, OTHER, value)
            self.assert_mismatch("pair", 1, ONE, OTHER, (1, 0), value, value)

    def test_part_of_a_pair(self):
        for value in no_integers():
            self.assert_mismatch("pair", 0, ONE, OTHER, (value, 0))
            self.assert_mismatch("pair", 1, ONE, OTHER, (0, 0), (1, value))

    def test_events_are_those_of_their_own_diary(self):
        short = Diary.of(7, None)
        self.assertEqual(len(joined(ONE, short, (1, 0))), 2)
        self.assert_mismatch("pair", 0, ONE, short, (0, 1))
        self.assert_mismatch("pair", 0, short, ONE, (1, 0))

    def test_an_event_of_an_earlier_pair(self):
        free = Diary.of(7, None, None, None)
        for again in ((0, 2), (1, 0), (0, 0), (0, 1)):
            self.assert_mismatch("pair", 1, free, free, (0, 0), again)
        for again in ((0, 1), (1, 2), (2, 0), (0, 2), (2, 2)):
            self.assert_mismatch("pair", 2, free, free, (0, 2), (1, 0), again, None)
        self.assertEqual(len(joined(free, free, (0, 1), (1, 0))), 4)
        self.assertEqual(len(joined(free, free, (0, 1), (1, 2), (2, 0))), 3)
        self.assert_mismatch("pair", 3, free, free, (0, 1), (1, 2), (2, 0), (0, 0))

    def test_the_first_wrong_argument(self):
        self.assert_mismatch("pair", 1, ONE, OTHER, (0, 0), (0, 1), None)
        self.assert_mismatch("pair", 0, ONE, OTHER, None, (0, 0), (0, 1))
        self.assert_mismatch("pair", 1, ONE, OTHER, *[(0, 0)] * 100000)

    def test_weekday(self):
        one, other = Diary.of(7, 1, 2, None, 0), Diary.of(7, 1, 3, 6, None)
        self.assert_mismatch("weekday", 0, one, other, (0, 1))
        self.assert_mismatch("weekday", 0, one, other, (3, 0))
        self.assert_mismatch("weekday", 0, one, other, (0, 1), (1, 0))
        self.assert_mismatch("weekday", 1, one, other, (0, 0), (1, 1))
        self.assert_mismatch("weekday", 2, one, other, (2, 2), (0, 0), (1, 1))
        self.assertEqual(joined(one, other, (0, 0), (1, 3), (2, 2)).weekdays, (1, 2, 6, 0, 3))

    def test_pairs_come_before_weekdays(self):
        one, other = Diary.of(7, 1, 2), Diary.of(7, 2, 1)
        self.assert_mismatch("weekday", 0, one, other, (0, 0), (1, 1))
        for wrong in ((0, 1), (2, 2), None, [1, 1], (1, True), tower(1)):
            self.assert_mismatch("pair", 1, one, other, (0, 0), wrong)

    def test_too_many_events(self):
        whole = {"part": "weekdays", "item": None}
        nine, eight = Diary.of(7, *(None,) * 9), Diary.of(7, *(0,) * 8)
        self.assert_fields(whole, InvalidDiary, joined, nine, eight)
        self.assert_fields(whole, InvalidDiary, joined, other=nine, one=eight)
        self.assertEqual(len(joined(nine, eight, (4, 4))), 16)
        full = Diary.of(7, *(None,) * 16)
        self.assertEqual(len(joined(full, Diary.of(7, 3), (9, 0))), 16)
        self.assert_fields(whole, InvalidDiary, joined, full, Diary.of(7, 3))
        self.assert_fields(whole, InvalidDiary, joined, full, full, *[(event, event) for event in range(15)])

    def test_too_many_bounds(self):
        many = {"part": "bounds", "item": None}
        for first, second in ((0, 61), (1, 60), (30, 31), (60, 1), (60, 60)):
            if second <= 60:
                one, other = Diary(7, (1,), ((0, 0, 1),) * first), Diary(7, (1,), ((0, 0, 2),) * second)
                self.assert_fields(many, InvalidDiary, joined, one, other)
                self.assert_fields(many, InvalidDiary, joined, one, other, (0, 0))
        for first, second in ((0, 60), (60, 0), (30, 30), (59, 1)):
            one, other = Diary(7, (1,), ((0, 0, 1),) * first), Diary(7, (1,), ((0, 0, 2),) * second)
            self.assertEqual(joined(one, other, (0, 0)).bounds, one.bounds + other.bounds)

    def test_several_errors_at_once(self):
        one = Diary(7, (1,) * 16, ((0, 0, 1),) * 60)
        other = Diary(7, (2,) * 16, ((0, 0, 1),) * 60)
        self.assert_mismatch("modulus", None, one, Diary(8, (2,) * 16, ((0, 0, 1),) * 60), None)
        self.assert_mismatch("pair", 1, one, other, (0, 0), (0, 1))
        self.assert_mismatch("weekday", 0, one, other, (0, 0), (1, 1))
        self.assert_fields({"part": "weekdays", "item": None}, InvalidDiary, joined, one, other)
        self.assert_fields({"part": "weekdays", "item": None}, InvalidDiary, joined, one, one, (0, 0))
        self.assert_fields({"part": "bounds", "item": None}, InvalidDiary, joined, one, one, *[(k, k) for k in range(16)])


class CalendarsTest(ProgramTestCase):
    def assert_decided(self, diary, wanted):
        self.assertIs(has_calendar(diary), wanted)
        answer = decide(diary)
        kind = "calendar" if wanted else "loop" if has_negative_loop(diary) else "ring"
        self.assertEqual(check_decision(diary, answer), kind)

    def test_no_shared_event_or_one_that_is_dated_in_both(self):
        source = random.Random(101)
        found = {True: 0, False: 0}
        for _ in range(250):
            one, other, _ = two_diaries(source)
            pairs = ()
            if source.random() < 0.5:
                weekday = source.randrange(one.modulus)
                pairs = ((source.randrange(len(one)), source.randrange(len(other))),)
                one, other = one.noting(pairs[0][0], weekday), other.noting(pairs[0][1], weekday)
            wanted = is_possible(one) and is_possible(other)
            self.assert_decided(joined(one, other, *pairs), wanted)
            found[wanted] += 1
        self.assertGreater(min(found.values()), 50)

    def test_one_undated_event_or_more_events(self):
        # Both diaries have calendars, but none with the same day of what they share.
        one = Diary(7, (1, None), ((0, 1, 0), (1, 0, 0)))
        other = Diary(7, (2, None), ((0, 1, 0), (1, 0, 0)))
        self.assert_decided(joined(one, other, (1, 1)), False)
        self.assert_decided(joined(one, other), True)
        one = Diary(7, (1, 2), ((0, 1, 1), (1, 0, -1)))
        other = Diary(7, (1, 2), ((0, 1, 8), (1, 0, -8)))
        self.assert_decided(joined(one, other, (0, 0), (1, 1)), False)
        self.assert_decided(joined(one, other, (1, 1)), True)

    def test_calendars_are_those_of_both_that_agree(self):
        source = random.Random(102)
        found = {"none": 0, "some": 0}
        for _ in range(300):
            one, other, pairs = two_diaries(source)
            low = source.randint(-6, 3)
            high = low + source.randint(0, 4)
            parts = [(days, more) for days in all_days(one, low, high) for more in all_days(other, low, high)]
            wanted = sorted(filter(None, (merged(len(one), days, more, pairs) for days, more in parts)))
            both = joined(one, other, *pairs)
            if len(wanted) > 1000:
                self.assert_fields({"limit": 1000}, LimitExceeded, count_calendars, both, low, high)
            else:
                self.assertEqual(list(calendars(both, low, high)), wanted)
                found["some" if wanted else "none"] += 1
        self.assertGreater(min(found.values()), 50)

    def test_every_two_calendars_that_agree(self):
        source = random.Random(103)
        for _ in range(100):
            days = [source.randint(-50, 50) for _ in range(12)]
            sides = [source.sample(range(12), 8), source.sample(range(12), 8)]
            diaries = [diary_of(source, [days[place] for place in side]) for side in sides]
            pairs = [(sides[0].index(place), sides[1].index(place)) for place in sides[0] if place in sides[1]]
            both = joined(*diaries, *pairs)
            order = sides[0] + [place for place in sides[1] if place not in sides[0]]
            self.assertTrue(is_calendar(both, tuple(days[place] for place in order)))
            self.assertTrue(has_calendar(both))

    def test_the_other_order_renames_events_only(self):
        source = random.Random(104)
        for _ in range(200):
            one, other, pairs = two_diaries(source, sizes=(1, 2, 3, 4))
            there = joined(one, other, *pairs)
            back = joined(other, one, *[(j, i) for i, j in pairs])
            names = new_names(one, other, pairs)
            self.assertEqual(sorted(names), list(range(len(back))))
            self.assertEqual([back.weekdays[name] for name in names], list(there.weekdays))
            renamed = sorted((names[a], names[b], w) for a, b, w in there.bounds)
            self.assertEqual(renamed, sorted(back.bounds))
            self.assertIs(has_calendar(there), has_calendar(back))


def new_names(one, other, pairs):
    """Return the numbers that the events of the joined diary have if the two are joined in the other order."""
    shared = dict(pairs)
    alone = [event for event in range(len(one)) if event not in shared]
    names = [shared[event] if event in shared else len(other) + alone.index(event) for event in range(len(one))]
    return names + [event for event in range(len(other)) if event not in shared.values()]


def diary_of(source, days):
    """Return a diary of modulus 7 with these days as a calendar."""
    weekdays = tuple(day % 7 if source.random() < 0.5 else None for day in days)
    ends = [(source.randrange(8), source.randrange(8)) for _ in range(20)]
    return Diary(7, weekdays, tuple((a, b, days[b] - days[a] + source.randint(0, 3)) for a, b in ends))


if __name__ == "__main__":
    unittest.main()
