"""Points 13 and 14: walks, legs and loops."""

import itertools
import random
import unittest

from tests.helpers import LONG, ProgramTestCase, no_integers, other_values, odd_tuples, tower
from weekdaylegs.diaries import Diary
from weekdaylegs.errors import InvalidWalk
from weekdaylegs.legs import Leg, Loop, Walk

# Events 0 and 3 are dated. Bounds 0 to 2 lead from 0 to 3, bound 3 leads back.
BOUNDS = ((0, 1, 3), (1, 2, 4), (2, 3, -9), (3, 0, -5), (2, 1, 1), (1, 1, -2), (0, 0, -1), (0, 3, 2))
DIARY = Diary(7, (1, None, None, 0), BOUNDS)


class WalkTestCase(ProgramTestCase):
    def assert_wrong(self, spot, kind, numbers, diary=DIARY):
        self.assert_fields({"spot": spot}, InvalidWalk, kind, diary, *numbers)


class WalkTest(WalkTestCase):
    def test_what_can_be_read(self):
        walk = Walk(DIARY, 0, 1, 2, 3)
        self.assertEqual(walk.diary, DIARY)
        self.assertEqual((walk.numbers, walk.stops, walk.total), ((0, 1, 2, 3), (0, 1, 2, 3, 0), -7))
        self.assertEqual((len(walk), walk.most()), (4, -7))
        self.assertEqual((Walk(DIARY, 7).stops, Walk(DIARY, 7).total, len(Walk(DIARY, 7))), ((0, 3), 2, 1))
        self.assertIs(type(walk.numbers), tuple)
        self.assertIs(type(walk.stops), tuple)

    def test_bounds_and_events_may_come_back(self):
        walk = Walk(DIARY, 5, 5, 1, 4, 5)
        self.assertEqual((walk.stops, walk.total, len(walk)), ((1, 1, 1, 2, 1, 1), -1, 5))
        self.assertEqual(len(Walk(DIARY, *[5] * 1000)), 1000)

    def test_no_numbers(self):
        for kind in (Walk, Leg, Loop):
            self.assert_wrong(None, kind, ())
            self.assert_fields({"spot": None}, InvalidWalk, kind, diary=DIARY)
            self.assert_fields({"spot": None}, InvalidWalk, kind, Diary.of(7, 0))

    def test_no_numbers_of_a_bound(self):
        for kind in (Walk, Leg, Loop):
            for value in [-1, 8, LONG, -LONG] + no_integers():
                self.assert_wrong(0, kind, (value,))
                self.assert_wrong(0, kind, (value, value, 0))
                self.assert_wrong(1, kind, (0, value))
                self.assert_wrong(3, kind, (0, 1, 2, value, 3))
            self.assert_wrong(0, kind, (0,), Diary.of(7, 0))

    def test_bounds_that_do_not_follow(self):
        for kind in (Walk, Leg, Loop):
            self.assert_wrong(1, kind, (0, 0))
            self.assert_wrong(1, kind, (1, 1))
            self.assert_wrong(2, kind, (0, 1, 3))
            self.assert_wrong(2, kind, (0, 1, 0, -1))
            self.assert_wrong(1, kind, (0, 2, True))

    def test_walks_of_all_numbers(self):
        for numbers in itertools.product(range(-1, 9), repeat=3):
            spot = None
            for at in (2, 1, 0):
                if not 0 <= numbers[at] < 8:
                    spot = at
                elif at and 0 <= numbers[at - 1] < 8 and BOUNDS[numbers[at - 1]][1] != BOUNDS[numbers[at]][0]:
                    spot = at
            if spot is None:
                self.assertEqual(Walk(DIARY, *numbers).numbers, numbers)
            else:
                self.assert_wrong(spot, Walk, numbers)

    def test_what_is_read_stays_the_same(self):
        one, other = Walk(DIARY, 0, 1), Walk(DIARY, 3)
        for _ in range(3):
            self.assertEqual((one.numbers, one.stops, one.total, one.most(), len(one)), ((0, 1), (0, 1, 2), 7, 7, 2))
            self.assertEqual((other.numbers, other.stops, other.total, len(other)), ((3,), (3, 0), -5, 1))

    def test_arguments_stay_as_they_were(self):
        number = [0]
        self.assert_wrong(0, Walk, (number,))
        self.assertEqual(number, [0])
        self.assertEqual(DIARY, Diary(7, (1, None, None, 0), BOUNDS))


class EqualWalksTest(WalkTestCase):
    def test_equal(self):
        self.assertTrue(Walk(DIARY, 0, 1) == Walk(DIARY, 0, 1))
        self.assertFalse(Walk(DIARY, 0, 1) != Walk(DIARY, 0, 1))
        self.assertTrue(Walk(DIARY, 0) == Walk(Diary(7, (1, None, None, 0), BOUNDS), 0))

    def test_equal_between_classes(self):
        for kind, numbers in ((Leg, (0, 1, 2)), (Loop, (1, 4))):
            self.assertTrue(kind(DIARY, *numbers) == Walk(DIARY, *numbers))
            self.assertTrue(Walk(DIARY, *numbers) == kind(DIARY, *numbers))
            self.assertFalse(Walk(DIARY, *numbers) != kind(DIARY, *numbers))
        self.assertFalse(Leg(DIARY, 7) == Loop(DIARY, 5))

    def test_unequal_walks(self):
        walk = Walk(DIARY, 0, 1)
        others = [Walk(DIARY, 0), Walk(DIARY, 0, 1, 2), Walk(DIARY, 1, 4), Walk(DIARY, 0, 5)]
        for diary in (DIARY.adding((0, 0, 0)), DIARY.noting(0, 2), DIARY.noting(1, 0), DIARY.shifted(1)):
            others.append(Walk(diary, 0, 1))
        for other in others:
            self.assertIs(walk == other, False)
            self.assertIs(walk != other, True)

    def test_not_equal_to_other_values(self):
        values = [None, 0, (0, 1), (DIARY, (0, 1)), DIARY, tower(0)] + other_values() + odd_tuples()
        for walk in (Walk(DIARY, 0, 1), Leg(DIARY, 7), Loop(DIARY, 5)):
            for value in values:
                self.assertIs(walk == value, False)
                self.assertIs(walk != value, True)


class LegTest(WalkTestCase):
    def test_example_of_the_document(self):
        diary = Diary(7, (1, None, 0), ((0, 1, 3), (1, 2, 4), (2, 0, -7)))
        found = Leg(diary, 0, 1).total, Leg(diary, 0, 1).most(), Leg(diary, 0, 1).stops, Leg(diary, 2).most()
        self.assertEqual(found, (7, 6, (0, 1, 2), -13))

    def test_base_class(self):
        self.assertEqual((Leg.__bases__, Loop.__bases__), ((Walk,), (Walk,)))

    def test_what_can_be_read(self):
        leg = Leg(DIARY, 0, 5, 1, 2)
        self.assertEqual((leg.numbers, leg.stops, leg.total, len(leg)), ((0, 5, 1, 2), (0, 1, 1, 2, 3), -4, 4))
        self.assertEqual((leg.diary, leg.most()), (DIARY, -8))
        self.assertEqual((Leg(DIARY, 6).stops, Leg(DIARY, 6).total, Leg(DIARY, 6).most()), ((0, 0), -1, -7))
        self.assertEqual((Leg(DIARY, 3).most(), Leg(DIARY, 7).most()), (-6, -1))

    def test_length(self):
        for modulus in (2, 3, 7, 100):
            for first in (0, 1, modulus - 1):
                for last in (0, 1, modulus - 1):
                    for total in list(range(-2 * modulus, 2 * modulus + 1)) + [10 ** 9, -10 ** 9]:
                        diary = Diary(modulus, (first, last), ((0, 1, total),))
                        length = total
                        while (length - last + first) % modulus != 0:
                            length -= 1
                        self.assertEqual((Leg(diary, 0).most(), Leg(diary, 0).total), (length, total))

    def test_first_what_is_wrong_as_a_walk(self):
        self.assert_wrong(2, Leg, (1, 4, 8))
        self.assert_wrong(2, Leg, (6, 6, 1))
        self.assert_wrong(1, Leg, (3, 1))

    def test_position_of_a_dated_stop(self):
        self.assert_wrong(0, Leg, (7, 3))
        self.assert_wrong(0, Leg, (6, 0))
        self.assert_wrong(2, Leg, (0, 1, 2, 3))
        self.assert_wrong(0, Leg, (3, 0, 1, 2))

    def test_position_of_an_undated_stop(self):
        self.assert_wrong(0, Leg, (1, 2))
        self.assert_wrong(0, Leg, (2,))
        self.assert_wrong(0, Leg, (0,))
        self.assert_wrong(1, Leg, (0, 1))
        self.assert_wrong(3, Leg, (0, 5, 1, 4))
        self.assert_wrong(0, Leg, (1, 2, 3))
        self.assert_wrong(0, Leg, (5, 1))


class LoopTest(WalkTestCase):
    def test_what_can_be_read(self):
        loop = Loop(DIARY, 1, 4, 5)
        self.assertEqual((loop.numbers, loop.stops, loop.total, len(loop)), ((1, 4, 5), (1, 2, 1, 1), 3, 3))
        self.assertEqual((loop.diary, loop.most()), (DIARY, 3))
        self.assertEqual((Loop(DIARY, 5).stops, Loop(DIARY, 5).most()), ((1, 1), -2))

    def test_first_what_is_wrong_as_a_walk(self):
        self.assert_wrong(2, Loop, (6, 0, 0))
        self.assert_wrong(1, Loop, (0, None))

    def test_position_of_a_dated_stop(self):
        self.assert_wrong(0, Loop, (6,))
        self.assert_wrong(0, Loop, (0, 1, 2, 3))
        self.assert_wrong(2, Loop, (1, 2, 3, 0))
        self.assert_wrong(1, Loop, (2, 3, 0, 1))

    def test_last_position_if_it_does_not_end_where_it_begins(self):
        self.assert_wrong(0, Loop, (1,))
        self.assert_wrong(0, Loop, (4,))
        self.assert_wrong(0, Loop, (2,))
        self.assert_wrong(1, Loop, (1, 2))
        self.assert_wrong(2, Loop, (5, 5, 1))


class RandomWalksTest(WalkTestCase):
    def test_first_wrong_position(self):
        source = random.Random(14)
        for _ in range(3000):
            events = source.randint(1, 4)
            noted = tuple(source.choice((0, None)) for _ in range(events))
            ends = [(source.randrange(events), source.randrange(events)) for _ in range(8)]
            diary = Diary(3, noted, tuple((a, b, 0) for a, b in ends))
            numbers = self.walk(source, ends)
            stops = [ends[numbers[0]][0]] + [ends[number][1] for number in numbers]
            dated = [noted[stop] is not None for stop in stops]
            last = len(numbers) - 1
            leg = [k for k in range(len(numbers)) if dated[k] != (k == 0) or dated[k + 1] != (k == last)]
            loop = [k for k in range(len(numbers)) if dated[k]] + [last] * (stops[0] != stops[-1])
            for kind, wrong in ((Leg, leg), (Loop, loop)):
                if wrong:
                    self.assert_wrong(wrong[0], kind, numbers, diary)
                else:
                    self.assertEqual(kind(diary, *numbers).stops, tuple(stops))

    def walk(self, source, ends):
        """Return the numbers of a walk of up to five bounds."""
        numbers = [source.randrange(len(ends))]
        for _ in range(source.randrange(5)):
            onward = [number for number, end in enumerate(ends) if end[0] == ends[numbers[-1]][1]]
            if onward:
                numbers.append(source.choice(onward))
        return numbers


if __name__ == "__main__":
    unittest.main()
