"""Points 20 to 25: what follows from a diary's bounds, and mirrored and shifted diaries."""

import random
import unittest

from tests.helpers import ProgramTestCase
from tests.samples import large_diaries, small_diaries
from weekdaylegs.certainty import possible_weekdays, sure_gaps
from weekdaylegs.decisions import has_calendar
from weekdaylegs.diaries import Diary
from weekdaylegs.errors import NoCalendar
from weekdaylegs.gaps import greatest_gap, is_possible_gap, least_gap, possible_gaps, weekday_range
from weekdaylegs.legs import Leg, Walk

DAYS = 10 ** 9


def most_of(diary, first, second):
    """Return the greatest gap, or None if there is none."""
    answer = greatest_gap(diary, first, second)
    return None if answer[0] == "open" else answer[1]


def least_of(diary, first, second):
    """Return the least gap, or None if there is none."""
    answer = least_gap(diary, first, second)
    return None if answer[0] == "open" else answer[1]


def gaps_told(diary, second):
    """Return all that is told of the gaps from event 0 to another one."""
    ranges = [weekday_range(diary, 0, second, weekday) for weekday in range(diary.modulus)]
    listed = list(possible_gaps(diary, 0, second, start=-50, many=25))
    return least_of(diary, 0, second), most_of(diary, 0, second), ranges, listed


def all_told(diary):
    """Return all that is told of the gaps from event 0."""
    told = [gaps_told(diary, second) for second in range(len(diary))]
    return told, sure_gaps(diary, 0), [possible_weekdays(diary, event) for event in range(len(diary))]


def sample_diaries(source, small, large):
    """Yield small and large diaries with a calendar, with room for two more bounds, in which event 0 is dated."""
    for diary, _ in small_diaries(source, small):
        yield diary
    for diary, _ in large_diaries(source, large):
        if diary.modulus <= 10:
            yield Diary(diary.modulus, diary.weekdays, diary.bounds[:55])


def random_walk(source, diary):
    """Return the numbers of a random walk, or none if the diary has no bounds."""
    numbers = []
    ways = list(range(len(diary.bounds)))
    while ways and len(numbers) < 6 and source.random() < 0.8:
        numbers.append(source.choice(ways))
        ways = [number for number, bound in enumerate(diary.bounds) if bound[0] == diary.bounds[numbers[-1]][1]]
    return numbers


class BoundsThatFollowTest(ProgramTestCase):
    def test_greatest_and_least_gaps(self):
        source = random.Random(81)
        for diary in sample_diaries(source, 120, 12):
            second = source.randrange(len(diary))
            least, most = least_of(diary, 0, second), most_of(diary, 0, second)
            held = diary.between(0, second, least=within(least), most=within(most))
            self.assertEqual(all_told(held), all_told(diary))

    def test_sums_of_walks(self):
        source = random.Random(82)
        seen = 0
        for diary in sample_diaries(source, 200, 12):
            numbers = random_walk(source, diary)
            if numbers and abs(Walk(diary, *numbers).total) <= DAYS:
                seen += 1
                walk = Walk(diary, *numbers)
                held = diary.adding((walk.stops[0], walk.stops[-1], walk.total))
                self.assertEqual(all_told(held), all_told(diary))
        self.assertGreater(seen, 80)

    def test_lengths_of_legs(self):
        source = random.Random(83)
        seen = 0
        for diary in sample_diaries(source, 200, 12):
            for second in range(len(diary)):
                answer = greatest_gap(diary, 0, second)
                if answer[0] == "most" and answer[3]:
                    seen += 1
                    leg = Leg(diary, *source.choice(answer[3]))
                    held = diary.adding((leg.stops[0], leg.stops[-1], leg.most()))
                    self.assertEqual(all_told(held), all_told(diary))
                    break
        self.assertGreater(seen, 40)

    def test_one_day_less_than_the_greatest_gap(self):
        found = {"none": 0, "less": 0}
        for diary in sample_diaries(random.Random(84), 300, 12):
            for second in range(len(diary)):
                most = most_of(diary, 0, second)
                if most is not None and abs(most) < DAYS:
                    held = diary.between(0, second, most=most - 1)
                    # By point 24 the possible gaps with the same weekday go on in whole weeks.
                    below = [gap for gap in range(most - diary.modulus, most) if is_possible_gap(diary, 0, second, gap)]
                    found["less" if below else "none"] += 1
                    self.assert_most(held, second, below[-1] if below else None)
        self.assertGreater(min(found.values()), 50)

    def assert_most(self, held, second, wanted):
        self.assertIs(has_calendar(held), wanted is not None)
        if wanted is None:
            with self.assertRaises(NoCalendar):
                greatest_gap(held, 0, second)
        else:
            self.assertEqual(most_of(held, 0, second), wanted)

    def test_one_day_more_than_the_least_gap(self):
        for diary in sample_diaries(random.Random(85), 150, 12):
            for second in range(len(diary)):
                least = least_of(diary, 0, second)
                if least is not None and abs(least) < DAYS:
                    held = diary.between(0, second, least=least + 1)
                    above = [gap for gap in range(least + 1, least + diary.modulus + 1)
                             if is_possible_gap(diary, 0, second, gap)]
                    self.assertIs(has_calendar(held), above != [])
                    if above:
                        self.assertEqual(least_of(held, 0, second), above[0])


def within(days):
    """Return days that may be those of a bound, and None for others."""
    return days if days is not None and abs(days) <= DAYS else None


class MovedDiariesTest(ProgramTestCase):
    def test_mirrored(self):
        for diary in sample_diaries(random.Random(86), 200, 12):
            other = diary.mirrored()
            for second in range(len(diary)):
                self.assertEqual(negative(most_of(other, 0, second)), least_of(diary, 0, second))
                self.assertEqual(negative(least_of(other, 0, second)), most_of(diary, 0, second))
                for weekday in range(diary.modulus):
                    found = weekday_range(other, 0, second, -weekday % diary.modulus)
                    turned = None if found is None else (negative(found[1]), negative(found[0]))
                    self.assertEqual(turned, weekday_range(diary, 0, second, weekday))
                for gap in range(-20, 21):
                    self.assertIs(is_possible_gap(other, 0, second, -gap), is_possible_gap(diary, 0, second, gap))
            self.assertEqual(tuple((event, -gap) for event, gap in sure_gaps(other, 0)), sure_gaps(diary, 0))

    def test_shifted(self):
        source = random.Random(87)
        for diary in sample_diaries(source, 150, 12):
            days = source.choice((1, -1, 50, 10 ** 999))
            other = diary.shifted(days)
            for second in range(len(diary)):
                told, moved = gaps_told(diary, second), gaps_told(other, second)
                self.assertEqual((moved[0], moved[1], moved[3]), (told[0], told[1], told[3]))
                ranges = [moved[2][(weekday + days) % diary.modulus] for weekday in range(diary.modulus)]
                self.assertEqual(ranges, told[2])
            self.assertEqual(sure_gaps(other, 0), sure_gaps(diary, 0))
            for event in range(len(diary)):
                moved = sorted((weekday + days) % diary.modulus for weekday in possible_weekdays(diary, event))
                self.assertEqual(list(possible_weekdays(other, event)), moved)


def negative(days):
    return None if days is None else -days


if __name__ == "__main__":
    unittest.main()
