"""Point 24: possible gaps, all of them and those for one weekday."""

import random
import types
import unittest

from tests.gap_cases import DIARY, LOOP, RING, GapTestCase, no_events
from tests.helpers import LONG, no_integers, tower
from tests.samples import all_closest, large_diaries, least_of, most_of, ranges_of, small_diaries
from weekdaylegs.decisions import has_calendar
from weekdaylegs.diaries import Diary
from weekdaylegs.errors import InvalidEvent, InvalidNumber
from weekdaylegs.gaps import greatest_gap, is_possible_gap, least_gap, possible_gaps, weekday_range

DAYS = 10 ** 9
# The gaps from 0 to 2 are 0 and 1 and all that are later by whole weeks.
ROUND = Diary(7, (0, 0, None), ((1, 0, 0), (2, 1, 0), (1, 2, 1)))


def listed(*args, **named):
    return list(possible_gaps(*args, **named))


class WeekdayRangeTest(GapTestCase):
    def ranges(self, diary, first, second):
        return [weekday_range(diary, first, second, weekday) for weekday in range(diary.modulus)]

    def test_example_of_the_document(self):
        self.assertIsNone(weekday_range(ROUND, 0, 2, 3))
        self.assertEqual(weekday_range(ROUND, 0, 2, 0), (0, None))
        self.assertEqual(weekday_range(ROUND, 0, 2, 1), (1, None))

    def test_by_name(self):
        self.assertEqual(weekday_range(weekday=3, second=1, first=0, diary=DIARY), (2, 2))

    def test_both_ends(self):
        self.assertEqual(self.ranges(DIARY, 0, 1), [None, None, None, (2, 2), (3, 3), None, None])
        self.assertEqual(self.ranges(DIARY, 2, 1), [None, None, None, (-4, -4), (-3, -3), None, None])
        wide = Diary(3, (1, None), ((0, 1, 7), (1, 0, 4)))
        self.assertEqual(self.ranges(wide, 0, 1), [(-4, 5), (-3, 6), (-2, 7)])

    def test_missing_ends(self):
        self.assertEqual(self.ranges(Diary.of(3, 1, None), 0, 1), [(None, None)] * 3)
        self.assertEqual(self.ranges(Diary(3, (1, None), ((0, 1, 7),)), 0, 1), [(None, 5), (None, 6), (None, 7)])
        self.assertEqual(self.ranges(Diary(3, (1, None), ((1, 0, 7),)), 0, 1), [(-7, None), (-6, None), (-5, None)])

    def test_dated_second(self):
        self.assertEqual(self.ranges(DIARY, 0, 2), [(6, 6)] + [None] * 6)
        self.assertEqual(self.ranges(DIARY, 0, 0), [None, (0, 0)] + [None] * 5)
        self.assertEqual(self.ranges(Diary.of(3, 1, 2), 0, 1), [None, None, (None, None)])
        self.assertEqual(self.ranges(Diary(3, (1, 2), ((0, 1, 9), (1, 0, 9))), 0, 1), [None, None, (-8, 7)])

    def test_weekdays_that_only_rings_bar(self):
        # Event 1 lies at most a day behind event 2, and this at most a day behind event 1.
        near = Diary(7, (0, None, 3), ((2, 1, 1), (1, 2, 1)))
        self.assertEqual(self.ranges(near, 0, 1), [None, None] + [(None, None)] * 3 + [None, None])
        apart = Diary(7, (0, None, 3), ((1, 2, 0), (2, 1, 0)))
        self.assertEqual(self.ranges(apart, 0, 1), [None] * 3 + [(None, None)] + [None] * 3)

    def test_against_all_ways_to_give_weekdays(self):
        for diary, ways in small_diaries(random.Random(41), 500):
            for second in range(len(diary)):
                known = ranges_of(ways, 0, second)
                wanted = [known.get(weekday) for weekday in range(diary.modulus)]
                self.assertEqual(self.ranges(diary, 0, second), wanted)

    def test_known_calendars(self):
        for diary, days in large_diaries(random.Random(42), 60):
            for second in range(len(diary)):
                gap = days[second] - days[0]
                least, most = weekday_range(diary, 0, second, days[second] % diary.modulus)
                self.assertTrue(least is None or least <= gap)
                self.assertTrue(most is None or gap <= most)
                # The ends of all weekdays together are the greatest and the least gap.
                ends = [end for end in self.ranges(diary, 0, second) if end is not None]
                low, high = least_gap(diary, 0, second), greatest_gap(diary, 0, second)
                self.assertEqual(least_of(ends), None if low[0] == "open" else low[1])
                self.assertEqual(most_of(ends), None if high[0] == "open" else high[1])

    def test_no_weekdays(self):
        for diary in (DIARY, RING, LOOP):
            for value in [-1, 7, 8, LONG, -LONG, tower(3)] + no_integers():
                for second in range(3):
                    self.assert_value(InvalidNumber, weekday_range, value, diary, 0, second, value)
                    self.assert_value(InvalidNumber, weekday_range, value, diary, 0, second=second, weekday=value)
        self.assert_value(InvalidNumber, weekday_range, 2, Diary.of(2, 0), 0, 0, 2)


class IsPossibleTest(GapTestCase):
    def test_examples(self):
        self.assertEqual([gap for gap in range(-9, 16) if is_possible_gap(ROUND, 0, 2, gap)], [0, 1, 7, 8, 14, 15])
        self.assertEqual([gap for gap in range(-9, 16) if is_possible_gap(DIARY, 0, 1, gap)], [2, 3])
        self.assertEqual([gap for gap in range(-9, 16) if is_possible_gap(DIARY, 0, 2, gap)], [6])
        self.assertEqual([gap for gap in range(-9, 16) if is_possible_gap(DIARY, 0, 0, gap)], [0])

    def test_true_and_false_are_returned(self):
        self.assertIs(is_possible_gap(DIARY, 0, 1, 2), True)
        self.assertIs(is_possible_gap(days=4, second=1, first=0, diary=DIARY), False)
        self.assertIs(is_possible_gap(DIARY, 0, 2, 5), False)

    def test_very_long_numbers(self):
        for remainder in range(7):
            days = 7 * LONG + remainder
            self.assertIs(is_possible_gap(ROUND, 0, 2, days), remainder <= 1)
            self.assertIs(is_possible_gap(ROUND, 0, 2, -days), False)
            self.assertIs(is_possible_gap(ROUND.mirrored(), 0, 2, -days), remainder <= 1)
            self.assertIs(is_possible_gap(Diary.of(7, 3, 4), 0, 1, days), remainder == 1)
            self.assertIs(is_possible_gap(Diary.of(7, 3, 4), 0, 1, -days), remainder == 6)
            self.assertIs(is_possible_gap(Diary.of(7, 3, None), 0, 1, -days), True)

    def test_against_all_ways_to_give_weekdays(self):
        for diary, ways in small_diaries(random.Random(43), 200):
            for second in range(len(diary)):
                wanted = gaps_of(ways, diary, second, range(-25, 26))
                found = [gap for gap in range(-25, 26) if is_possible_gap(diary, 0, second, gap)]
                self.assertEqual(found, wanted)

    def test_against_bounds_for_this_gap(self):
        source = random.Random(44)
        for diary, days in large_diaries(source, 60):
            for second in range(len(diary)):
                gap = days[second] - days[0]
                self.assertIs(is_possible_gap(diary, 0, second, gap), True)
                for near in (gap + source.randint(-9, 9), gap + diary.modulus, gap - diary.modulus):
                    if len(diary.bounds) <= 58 and abs(near) <= DAYS:
                        held = has_calendar(diary.between(0, second, least=near, most=near))
                        self.assertIs(is_possible_gap(diary, 0, second, near), held)

    def test_no_integers(self):
        for diary in (DIARY, RING, LOOP):
            for value in [tower(3)] + no_integers():
                for second in range(3):
                    self.assert_value(InvalidNumber, is_possible_gap, value, diary, 0, second, value)
                    self.assert_value(InvalidNumber, is_possible_gap, value, diary, 0, second=second, days=value)


def gaps_of(ways, diary, second, gaps):
    """Return those of the gaps from event 0 that some way to give weekdays allows."""
    found = []
    for gap in gaps:
        for noted, most in ways:
            fits = (noted[0] + gap - noted[second]) % diary.modulus == 0
            if fits and -most.get((second, 0), DAYS) <= gap <= most.get((0, second), DAYS):
                found.append(gap)
                break
    return found


class PossibleGapsTest(GapTestCase):
    def test_example_of_the_document(self):
        self.assertEqual(listed(ROUND, 0, 2, many=5), [0, 1, 7, 8, 14])

    def test_yields_one_by_one(self):
        found = possible_gaps(ROUND, 0, 2)
        self.assertIsInstance(found, types.GeneratorType)
        self.assertEqual([next(found), next(found), next(found)], [0, 1, 7])
        self.assertEqual(list(found), [8, 14, 15, 21, 22, 28, 29])

    def test_by_name(self):
        self.assertEqual(listed(many=3, start=2, second=2, first=0, diary=ROUND), [7, 8, 14])
        with self.assertRaises(TypeError):
            listed(ROUND, 0, 2, 0)

    def test_many(self):
        whole = [7 * week + day for week in range(500) for day in (0, 1)]
        for many in (0, 1, 2, 3, 10, 11, 999, 1000):
            self.assertEqual(listed(ROUND, 0, 2, many=many), whole[:many])
        self.assertEqual(listed(ROUND, 0, 2), whole[:10])
        self.assertEqual(listed(DIARY, 0, 1, many=1), [2])
        self.assertEqual(listed(DIARY, 0, 1, many=2), [2, 3])
        self.assertEqual(listed(DIARY, 0, 1, many=1000), [2, 3])
        self.assertEqual(listed(DIARY, 0, 2, many=1000), [6])
        self.assertEqual(listed(DIARY, 0, 2, many=0), [])

    def test_start(self):
        for start, wanted in ((-LONG, [2, 3]), (-1, [2, 3]), (2, [2, 3]), (3, [3]), (4, []), (LONG, [])):
            self.assertEqual(listed(DIARY, 0, 1, start=start), wanted)
        for start, wanted in ((-LONG, [6]), (0, [6]), (6, [6]), (7, []), (13, []), (LONG, [])):
            self.assertEqual(listed(DIARY, 0, 2, start=start), wanted)
        self.assertEqual(listed(DIARY, 0, 1), [2, 3])
        self.assertEqual(listed(DIARY, 2, 1), [])
        self.assertEqual(listed(DIARY, 2, 1, start=-4), [-4, -3])

    def test_start_without_an_end(self):
        free = Diary.of(7, 1, 3, None)
        self.assertEqual(listed(free, 0, 1, many=3), [2, 9, 16])
        self.assertEqual(listed(free, 0, 1, start=2, many=2), [2, 9])
        self.assertEqual(listed(free, 0, 1, start=3, many=2), [9, 16])
        self.assertEqual(listed(free, 0, 1, start=-5, many=3), [-5, 2, 9])
        self.assertEqual(listed(free, 0, 2, start=-5, many=3), [-5, -4, -3])
        for start in (7 * LONG, -7 * LONG):
            self.assertEqual(listed(free, 0, 1, start=start, many=2), [start + 2, start + 9])
            self.assertEqual(listed(free, 0, 2, start=start, many=2), [start, start + 1])
        self.assertEqual(listed(ROUND, 0, 2, start=7 * LONG + 1, many=3), [7 * LONG + day for day in (1, 7, 8)])
        self.assertEqual(listed(ROUND.mirrored(), 0, 2, start=-8), [-8, -7, -1, 0])
        self.assertEqual(listed(ROUND.mirrored(), 0, 2), [0])
        self.assertEqual(listed(ROUND.mirrored(), 0, 2, start=1), [])

    def test_first_and_second_equal(self):
        for diary in (DIARY, Diary.of(7, 3), ROUND):
            self.assertEqual(listed(diary, 0, 0), [0])
            self.assertEqual(listed(diary, 0, 0, start=1), [])

    def test_greatest_modulus(self):
        diary = Diary(100, (50, None, 20), ((2, 1, 1), (1, 2, 0), (0, 1, DAYS), (1, 0, 0)))
        wanted = [100 * turn + day for turn in range(500) for day in (70, 71)]
        self.assertEqual(listed(diary, 0, 1, many=1000), wanted)
        self.assertEqual(listed(diary, 0, 1, start=DAYS - 130, many=1000), [DAYS - 130, DAYS - 129, DAYS - 30, DAYS - 29])

    def test_against_all_ways_to_give_weekdays(self):
        source = random.Random(45)
        for diary, ways in small_diaries(source, 300):
            for second in range(len(diary)):
                self.assert_listed(source, diary, ways, second)

    def test_gaps_left_out(self):
        source = random.Random(47)
        left_out = 0
        for diary, _ in small_diaries(source, 300):
            # Event 1 is always near a dated event, so it often cannot have all weekdays.
            modulus, many = diary.modulus, len(diary)
            near = Diary(modulus, diary.weekdays + (source.randrange(modulus),), diary.bounds)
            near = near.noting(1, None).between(many, 1, least=source.randint(-1, 0), most=source.randint(0, 1))
            ways = all_closest(near)
            if ways:
                found = self.assert_listed(source, near, ways, 1)
                left_out += found != list(range(found[0], found[-1] + 1)) if found else 0
        self.assertGreater(left_out, 50)

    def assert_listed(self, source, diary, ways, second):
        """Check the gaps from any start on, up to day 60, and return all that are near."""
        wanted = gaps_of(ways, diary, second, range(-30, 61))
        start, many = source.randint(-30, 10), source.randint(0, 12)
        found = listed(diary, 0, second, start=start, many=many)
        known = [gap for gap in wanted if gap >= start][:many]
        self.assertEqual(found[:len(known)], known)
        if len(known) < many:
            self.assertTrue(all(gap > 60 for gap in found[len(known):]))
        else:
            self.assertEqual(len(found), many)
        return wanted

    def test_each_gap_is_possible_and_no_other_one(self):
        source = random.Random(46)
        for diary, days in large_diaries(source, 60):
            second = source.randrange(len(diary))
            start = days[second] - days[0] - source.randint(0, 150)
            found = listed(diary, 0, second, start=start, many=20)
            self.assertEqual(found, sorted(set(found)))
            end = found[-1] if len(found) == 20 else start + 500
            wanted = [gap for gap in range(start, end + 1) if is_possible_gap(diary, 0, second, gap)]
            self.assertEqual([gap for gap in found if gap <= end], wanted)

    def test_numbers_of_errors(self):
        for diary in (DIARY, RING, LOOP):
            for value in [tower(3)] + no_integers():
                self.assert_value(InvalidNumber, listed, value, diary, 0, 1, start=value)
                self.assert_value(InvalidNumber, listed, value, diary, 0, 1, start=value, many=value)
                self.assert_value(InvalidNumber, listed, value, diary, 0, 2, many=value)
            for value in (-1, 1001, LONG, -LONG):
                self.assert_value(InvalidNumber, listed, value, diary, 0, 1, many=value)
                self.assert_value(InvalidNumber, listed, "x", diary, 0, 1, many=value, start="x")

    def test_errors_come_before_anything_is_yielded(self):
        for kind, value, args, named in (
            (InvalidEvent, 1, (DIARY, 1, 1), {}), (InvalidEvent, 3, (DIARY, 0, 3), {}),
            (InvalidNumber, None, (DIARY, 0, 1), {"start": None}), (InvalidNumber, 1001, (DIARY, 0, 1), {"many": 1001}),
        ):
            self.assert_value(kind, lambda *args, **named: next(possible_gaps(*args, **named)), value, *args, **named)
        for diary in (RING, LOOP):
            for many in (0, 1, 1000):
                self.assert_reason(diary, lambda *args, **named: next(possible_gaps(*args, **named)), diary, 0, 1, many=many)


class ErrorsTest(GapTestCase):
    CALLS = ((weekday_range, {"weekday": None}), (is_possible_gap, {"days": None}), (listed, {"start": None, "many": None}))

    def test_events(self):
        for call, named in self.CALLS:
            for good in (named, {name: 1 for name in named}):
                self.assert_first(call, second="x", **good)
                self.assert_first(call, second=0, **good)
                self.assert_second(call, **good)

    def test_no_calendar(self):
        for call, named in self.CALLS:
            good = {name: 1 for name in named}
            for diary in (RING, LOOP):
                for second in range(3):
                    self.assert_reason(diary, call, diary, 0, second, **good)
                    self.assert_reason(diary, call, second=second, first=2, diary=diary, **good)

    def test_several_wrong_values(self):
        for diary in (DIARY, RING, LOOP):
            for first in no_events(diary)[:9]:
                self.assert_value(InvalidEvent, weekday_range, first, diary, first, first, first)
                self.assert_value(InvalidEvent, is_possible_gap, first, diary, first, first, first)
                self.assert_value(InvalidEvent, listed, first, diary, first, first, start=first, many=first)
            self.assert_value(InvalidEvent, weekday_range, 1, diary, 1, "2", "3")
            self.assert_value(InvalidEvent, weekday_range, "2", diary, 2, "2", "3")
            self.assert_value(InvalidEvent, is_possible_gap, "2", diary, 2, "2", "3")
            self.assert_value(InvalidEvent, listed, "2", diary, 2, "2", start="3", many="4")

    def test_arguments_stay_as_they_were(self):
        value = [0]
        self.assert_value(InvalidNumber, weekday_range, value, DIARY, 0, 1, value)
        self.assert_value(InvalidEvent, listed, value, DIARY, value, 1)
        listed(DIARY, 0, 1)
        self.assertEqual((value, DIARY), ([0], Diary(7, (1, None, 0), ((0, 1, 3), (1, 2, 4), (2, 0, -6)))))


if __name__ == "__main__":
    unittest.main()
