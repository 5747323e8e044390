"""The whole program: all functions together, against all ways to give weekdays to the undated events."""

import random
import unittest

from tests.gap_cases import GapTestCase
from tests.samples import (
    all_closest, all_days, diary_of_days, has_negative_loop, is_possible, least_of, most_of, random_diary, ranges_of,
)
from weekdaylegs.certainty import possible_weekdays, sure_gaps
from weekdaylegs.console import Console
from weekdaylegs.corrections import corrections, removals
from weekdaylegs.decisions import check_decision, decide, has_calendar
from weekdaylegs.diaries import Diary
from weekdaylegs.errors import LimitExceeded, NoCalendar
from weekdaylegs.gaps import (
    check_greatest, check_least, greatest_gap, is_possible_gap, least_gap, possible_gaps, weekday_range,
)
from weekdaylegs.legs import Leg, Walk
from weekdaylegs.live import CarefulDiary, LiveDiary
from weekdaylegs.texts import diary_text, read_diary
from weekdaylegs.windows import calendar_by_rank, calendars, count_calendars, rank_of

SPAN = range(-14, 15)


def any_small_diary(source, possible=None):
    """Return a diary with a modulus from 2 to 4 and up to four events, with or without a calendar if asked."""
    while True:
        modulus, events, many = source.randint(2, 4), source.randint(1, 4), source.randint(0, 8)
        if source.random() < 0.4:
            diary = random_diary(source, modulus, events, many, source.choice((1, 4)))
        else:
            days = [source.randint(-6, 6) for _ in range(events)]
            diary = diary_of_days(source, modulus, days, many, source.choice((0, 1, 3)))
        if possible in (None, is_possible(diary)):
            return diary


def dated_diary(source):
    """Return a small diary with a calendar in which event 0 is dated."""
    while True:
        diary = any_small_diary(source, True)
        if diary.weekdays[0] is not None:
            return diary


def dated(diary):
    """Return the numbers of the dated events."""
    return [event for event, weekday in enumerate(diary.weekdays) if weekday is not None]


def end(answer):
    """Return the gap of an answer, or None for an open one."""
    return None if answer[0] == "open" else answer[1]


def ends(diary, first, second):
    """Return the least and the greatest gap."""
    return end(least_gap(diary, first, second)), end(greatest_gap(diary, first, second))


def all_ends(diary):
    """Return the least and greatest gaps from all dated events to all events."""
    return [ends(diary, first, second) for first in dated(diary) for second in range(len(diary))]


def all_ranges(diary, first):
    """Return the ranges of the gaps from one event to all others with all weekdays."""
    return [[weekday_range(diary, first, second, weekday) for weekday in range(diary.modulus)]
            for second in range(len(diary))]


def narrower(inner, outer):
    """Tell whether a range, which may be None or open, is within another one."""
    if inner is None or outer is None:
        return inner is None
    low = outer[0] is None or (inner[0] is not None and inner[0] >= outer[0])
    return low and (outer[1] is None or (inner[1] is not None and inner[1] <= outer[1]))


def random_change(source, diary):
    """Return a change of a diary as it stands in a log."""
    first, second = source.randrange(len(diary)), source.randrange(len(diary))
    if source.random() < 0.3:
        return "note", first, source.choice((None, source.randrange(diary.modulus)))
    least, most = source.choice(((None, source.randint(-3, 8)), (source.randint(-8, 3), None)))
    return "tell", first, second, least, most


def change(live, entry):
    """Make the change that an entry of a log describes."""
    if entry[0] == "note":
        return live.note(*entry[1:])
    return live.tell(entry[1], entry[2], least=entry[3], most=entry[4])


def command_of(entry):
    """Return the command of a console for an entry of a log with one end of a gap."""
    words = ["-" if value is None else str(value) for value in entry[1:]]
    if entry[0] == "note":
        return " ".join(["note", *words])
    return " ".join(["least", *words[:3]] if entry[4] is None else ["most", *words[:2], words[3]])


def console_with(diary):
    """Return a console that holds a diary without bounds but with these weekdays."""
    console = Console()
    weekdays = " ".join("-" if weekday is None else str(weekday) for weekday in diary.weekdays)
    assert console.run(f"new {diary.modulus} {weekdays}") == "ok"
    return console


class SmallDiariesTest(GapTestCase):
    def test_decisions(self):
        source = random.Random(141)
        kinds = {}
        for _ in range(500):
            diary = any_small_diary(source)
            wanted = "calendar" if all_closest(diary) else "loop" if has_negative_loop(diary) else "ring"
            kinds[wanted] = kinds.get(wanted, 0) + 1
            self.assertIs(has_calendar(diary), wanted == "calendar")
            self.assertEqual(check_decision(diary, decide(diary)), wanted)
            self.assertIs(LiveDiary(diary).is_possible, wanted == "calendar")
            if wanted == "calendar":
                self.assertIs(CarefulDiary(diary).is_possible, True)
                self.assertEqual((corrections(diary), removals(diary)), ((), ()))
            else:
                self.assert_no_calendar(diary)
        self.assertGreater(min(kinds[kind] for kind in ("calendar", "loop", "ring")), 30)

    def assert_no_calendar(self, diary):
        """Check all functions that need a calendar, for a diary that has none."""
        self.assert_reason(diary, CarefulDiary, diary)
        self.assert_reason(diary, possible_weekdays, diary, 0)
        self.assertEqual(list(calendars(diary, -500, 500)), [])
        for first in dated(diary):
            self.assert_reason(diary, sure_gaps, diary, first)
            for call, args in ((greatest_gap, ()), (least_gap, ()), (is_possible_gap, (0,)), (weekday_range, (0,)),
                               (check_greatest, (None,)), (check_least, (None,))):
                self.assert_reason(diary, call, diary, first, 0, *args)
            self.assert_reason(diary, lambda *args: list(possible_gaps(*args)), diary, first, 0)

    def test_corrections_and_removals(self):
        source = random.Random(142)
        for _ in range(150):
            diary = any_small_diary(source, False)
            noted = [(event, weekday) for event in dated(diary) for weekday in (None, *range(diary.modulus))]
            wanted = tuple(pair for pair in noted if is_possible(diary.noting(*pair)))
            self.assertEqual(corrections(diary), wanted)
            bounds = [diary.bounds[:number] + diary.bounds[number + 1:] for number in range(len(diary.bounds))]
            others = [Diary(diary.modulus, diary.weekdays, kept) for kept in bounds]
            self.assertEqual(removals(diary), tuple(number for number, other in enumerate(others) if is_possible(other)))

    def test_gaps(self):
        source = random.Random(143)
        for _ in range(150):
            diary = any_small_diary(source, True)
            ways = all_closest(diary)
            for first in dated(diary):
                sure = []
                for second in range(len(diary)):
                    ranges = ranges_of(ways, first, second)
                    wanted = least_of(list(ranges.values())), most_of(list(ranges.values()))
                    self.assert_gaps(diary, first, second, wanted, ranges)
                    if wanted[0] is not None and wanted[0] == wanted[1]:
                        sure.append((second, wanted[0]))
                self.assertEqual(sure_gaps(diary, first), tuple(sure))
            for event in range(len(diary)):
                self.assertEqual(possible_weekdays(diary, event), tuple(sorted({noted[event] for noted, _ in ways})))

    def assert_gaps(self, diary, first, second, wanted, ranges):
        """Check what all functions tell of the gaps between two events."""
        least, most = least_gap(diary, first, second), greatest_gap(diary, first, second)
        self.assertEqual((end(least), end(most)), wanted)
        self.assert_least(diary, first, second, least)
        self.assert_most(diary, first, second, most)
        self.assertEqual((check_least(diary, first, second, least), check_greatest(diary, first, second, most)), wanted)
        for weekday in range(diary.modulus):
            self.assertEqual(weekday_range(diary, first, second, weekday), ranges.get(weekday))
        possible = []
        for gap in SPAN:
            low, high = ranges.get((diary.weekdays[first] + gap) % diary.modulus, (1, 0))
            if (low is None or low <= gap) and (high is None or gap <= high):
                possible.append(gap)
            self.assertIs(is_possible_gap(diary, first, second, gap), gap in possible)
        found = list(possible_gaps(diary, first, second, start=SPAN[0], many=30))
        self.assertEqual([gap for gap in found if gap in SPAN], possible)

    def test_windows(self):
        source = random.Random(144)
        for _ in range(200):
            diary = any_small_diary(source)
            low = source.randint(-9, 4)
            high = low + source.randint(0, 5)
            wanted = all_days(diary, low, high)
            self.assert_window(diary, low, high, wanted)
            if wanted:
                self.assertTrue(has_calendar(diary))

    def assert_window(self, diary, low, high, wanted):
        if len(wanted) > 1000:
            self.assert_fields({"limit": 1000}, LimitExceeded, count_calendars, diary, low, high)
            return
        self.assertEqual(list(calendars(diary, low, high)), wanted)
        self.assertEqual(count_calendars(diary, low, high), len(wanted))
        if wanted:
            rank = len(wanted) // 2
            self.assertEqual(calendar_by_rank(diary, low, high, rank), wanted[rank])
            self.assertEqual(rank_of(diary, low, high, wanted[rank]), rank)

    def test_a_window_has_calendars_of_all_possible_gaps(self):
        source = random.Random(145)
        for _ in range(60):
            diary = any_small_diary(source)
            if len(diary) > 2:
                continue
            rows = all_days(diary, -20, 20)
            self.assertIs(rows != [], has_calendar(diary))
            for first in dated(diary) if rows else ():
                for second in range(len(diary)):
                    seen = {days[second] - days[first] for days in rows}
                    for gap in range(-12, 13):
                        self.assertIs(is_possible_gap(diary, first, second, gap), gap in seen)


class TogetherTest(GapTestCase):
    """A live diary, a careful one and a console that receive the same changes."""

    def assert_same(self, live, careful, console):
        diary = live.diary
        self.assertEqual((careful.diary, careful.log, len(careful)), (diary, live.log, len(live)))
        self.assertEqual(list(careful.diaries()), list(live.diaries()))
        self.assertEqual((live.is_possible, careful.is_possible, is_possible(diary)), (True, True, True))
        self.assertFalse(live == careful)
        self.assertEqual(read_diary(diary_text(diary)), diary)
        self.assertEqual(console.run("decide"), "calendar")
        for event in range(len(diary)):
            self.assertEqual(console.run(f"weekdays {event}"), " ".join(map(str, possible_weekdays(diary, event))))
            for first in range(len(diary)):
                wanted = "bad event"
                if diary.weekdays[first] is not None:
                    wanted = " ".join("open" if gap is None else str(gap) for gap in ends(diary, first, event))
                self.assertEqual(console.run(f"gap {first} {event}"), wanted)
        count = len(all_days(diary, -2, 2))
        self.assertEqual(console.run("count -2 2"), str(count) if count <= 1000 else "too many calendars")

    def assert_refused(self, entry, live, careful, console):
        """Make a change after which there is no calendar, and undo it where it is not refused."""
        before = careful.copy()
        change(live, entry)
        self.assert_reason(live.diary, change, careful, entry)
        self.assertTrue(careful == before)
        self.assertEqual(console.run(command_of(entry)), "ok")
        self.assertIs(live.is_possible, False)
        self.assertEqual(console.run("decide"), decide(live.diary)[0])
        self.assertEqual(console.run("weekdays 0"), "no calendar")
        live.undo()
        self.assertEqual(console.run("undo"), "ok")

    def test_together(self):
        source = random.Random(146)
        refused = 0
        for _ in range(100):
            start = any_small_diary(source, True)
            start = Diary(start.modulus, start.weekdays, ())
            live, careful, console = LiveDiary(start), CarefulDiary(start), console_with(start)
            for _ in range(12):
                entry = random_change(source, live.diary)
                trial = live.copy()
                change(trial, entry)
                wanted = is_possible(trial.diary)
                if entry[0] == "tell":
                    bound = trial.diary.bounds[-1]
                    self.assertEqual((live.would(bound), careful.would(bound)), (wanted, wanted))
                if wanted:
                    change(live, entry)
                    change(careful, entry)
                    self.assertEqual(console.run(command_of(entry)), "ok")
                else:
                    refused += 1
                    self.assert_refused(entry, live, careful, console)
                self.assert_same(live, careful, console)
            while len(live):
                live.undo()
                careful.undo()
                self.assertEqual(console.run("undo"), "ok")
                self.assert_same(live, careful, console)
            self.assertEqual(console.run("undo"), "nothing to undo")
        self.assertGreater(refused, 100)


class MovedTest(GapTestCase):
    """Mirrored and shifted diaries."""

    def moves(self, source, diary):
        """Yield another diary with its factor for days and what is added to them then."""
        days = source.randint(-20, 20)
        yield diary.mirrored(), -1, 0
        yield diary.shifted(days), 1, days
        yield diary.mirrored().shifted(days), -1, days

    def test_calendars_and_weekdays(self):
        source = random.Random(147)
        for _ in range(120):
            diary = any_small_diary(source)
            low, high = -3, source.randint(-3, 2)
            rows = all_days(diary, low, high)
            for other, turn, days in self.moves(source, diary):
                self.assertEqual(decide(other)[0], decide(diary)[0])
                limits = sorted((turn * low + days, turn * high + days))
                moved = sorted(tuple(turn * day + days for day in row) for row in rows)
                if len(rows) <= 1000:
                    self.assertEqual(list(calendars(other, *limits)), moved)
                if has_calendar(diary):
                    for event in range(len(diary)):
                        turned = sorted((turn * weekday + days) % diary.modulus for weekday in possible_weekdays(diary, event))
                        self.assertEqual(list(possible_weekdays(other, event)), turned)

    def test_gaps(self):
        source = random.Random(148)
        for _ in range(100):
            diary = any_small_diary(source, True)
            for other, turn, days in self.moves(source, diary):
                for first in dated(diary):
                    sure = tuple((event, turn * gap) for event, gap in sure_gaps(diary, first))
                    self.assertEqual(sure_gaps(other, first), sure)
                    for second in range(len(diary)):
                        self.assert_turned(ends(other, first, second), ends(diary, first, second), turn)
                        for weekday in range(diary.modulus):
                            found = weekday_range(other, first, second, (turn * weekday + days) % diary.modulus)
                            self.assert_turned(found, weekday_range(diary, first, second, weekday), turn)
                        for gap in range(-8, 9):
                            wanted = is_possible_gap(diary, first, second, gap)
                            self.assertIs(is_possible_gap(other, first, second, turn * gap), wanted)

    def assert_turned(self, found, known, turn):
        if known is not None and turn < 0:
            known = tuple(None if gap is None else -gap for gap in known[::-1])
        self.assertEqual(found, known)

    def test_corrections_and_removals(self):
        source = random.Random(149)
        for _ in range(100):
            diary = any_small_diary(source, False)
            for other, turn, days in self.moves(source, diary):
                self.assertEqual(removals(other), removals(diary))
                moved = [(event, -1 if weekday is None else (turn * weekday + days) % diary.modulus)
                         for event, weekday in corrections(diary)]
                wanted = [(event, None if weekday < 0 else weekday) for event, weekday in sorted(moved)]
                self.assertEqual(corrections(other), tuple(wanted))

    def test_live_diaries(self):
        source = random.Random(150)
        for _ in range(40):
            live = LiveDiary(any_small_diary(source))
            days = source.randint(-20, 20)
            mirror, shifted = LiveDiary(live.diary.mirrored()), LiveDiary(live.diary.shifted(days))
            for _ in range(10):
                entry = random_change(source, live.diary)
                for one, other in ((live, entry), (mirror, self.mirrored(entry, live.diary.modulus)),
                                   (shifted, self.shifted(entry, live.diary.modulus, days))):
                    change(one, other)
                self.assertEqual((mirror.diary, shifted.diary), (live.diary.mirrored(), live.diary.shifted(days)))
                self.assertEqual((mirror.is_possible, shifted.is_possible), (live.is_possible,) * 2)
                bound = source.randrange(len(live.diary)), source.randrange(len(live.diary)), source.randint(-5, 5)
                turned = (bound[1], bound[0], bound[2])
                self.assertEqual((mirror.would(turned), shifted.would(bound)), (live.would(bound),) * 2)

    def mirrored(self, entry, modulus):
        """Return the same change of the mirrored diary: the gap back is the negative one."""
        if entry[0] == "note":
            return "note", entry[1], None if entry[2] is None else -entry[2] % modulus
        return "tell", entry[2], entry[1], entry[3], entry[4]

    def shifted(self, entry, modulus, days):
        if entry[0] == "note" and entry[2] is not None:
            return "note", entry[1], (entry[2] + days) % modulus
        return entry


class TellingTest(GapTestCase):
    """What can be told to a careful diary, and what follows."""

    def assert_told(self, diary, first, second, **named):
        """Tell a careful diary something of a gap, as would says, and return the new diary."""
        careful = CarefulDiary(diary)
        told = diary.between(first, second, **named)
        self.assertIs(careful.would(*told.bounds[len(diary.bounds):]), True)
        self.assertIsNone(careful.tell(first, second, **named))
        self.assertEqual(careful.diary, told)
        return told

    def assert_refused(self, diary, first, second, **named):
        """Check that a careful diary refuses something with a reason and stays the same, as would says."""
        careful = CarefulDiary(diary)
        told = diary.between(first, second, **named)
        self.assertIs(careful.would(*told.bounds[len(diary.bounds):]), False)
        self.assert_reason(told, careful.tell, first, second, **named)
        self.assertTrue(careful == CarefulDiary(diary))

    def test_what_is_sure(self):
        source = random.Random(151)
        several = 0
        for _ in range(100):
            diary = dated_diary(source)
            known = all_ends(diary)
            for event, gap in sure_gaps(diary, 0):
                told = self.assert_told(diary, 0, event, least=gap, most=gap)
                self.assertEqual(all_ends(told), known)
                several += event > 0
        self.assertGreater(several, 15)

    def test_what_is_enforced(self):
        source = random.Random(152)
        for _ in range(80):
            diary = dated_diary(source)
            known = all_ends(diary)
            for second in range(len(diary)):
                answer = greatest_gap(diary, 0, second)
                if answer[0] == "open":
                    continue
                told = self.assert_told(diary, 0, second, most=answer[1])
                self.assertEqual(all_ends(told), known)
                for row in answer[3]:
                    leg = Leg(diary, *row)
                    self.assertEqual(all_ends(self.assert_told(diary, leg.stops[0], leg.stops[-1], most=leg.most())), known)
                if answer[4]:
                    walk = Walk(diary, *answer[4])
                    told = self.assert_told(diary, walk.stops[0], walk.stops[-1], most=walk.most())
                    self.assertEqual(all_ends(told), known)

    def test_telling_more_makes_no_range_wider(self):
        source = random.Random(153)
        narrowed = 0
        for _ in range(300):
            diary = dated_diary(source)
            careful = CarefulDiary(diary)
            entry = random_change(source, diary)
            if entry[0] == "note" and diary.weekdays[entry[1]] is not None:
                continue
            try:
                change(careful, entry)
            except NoCalendar:
                continue
            before, after = all_ranges(diary, 0), all_ranges(careful.diary, 0)
            for outer, inner in zip(before, after):
                self.assertTrue(all(map(narrower, inner, outer)))
            narrowed += before != after
            for event in range(len(diary)):
                self.assertLessEqual(set(possible_weekdays(careful.diary, event)), set(possible_weekdays(diary, event)))
        self.assertGreater(narrowed, 30)

    def test_a_greatest_gap_exactly(self):
        source = random.Random(154)
        for _ in range(80):
            diary = dated_diary(source)
            for second in range(len(diary)):
                least, most = ends(diary, 0, second)
                if most is not None:
                    told = self.assert_told(diary, 0, second, least=most)
                    self.assertEqual(ends(told, 0, second), (most, most))
                    self.assert_refused(told, 0, second, most=most - 1)
                    self.assert_refused(diary, 0, second, least=most + 1)
                    self.assertEqual(ends(self.assert_told(diary, 0, second, least=most, most=most), 0, second), (most, most))
                if least is not None:
                    told = self.assert_told(diary, 0, second, most=least)
                    self.assertEqual(ends(told, 0, second), (least, least))
                    self.assert_refused(told, 0, second, least=least + 1)
                    self.assert_refused(diary, 0, second, most=least - 1)

    def test_possible_gaps(self):
        source = random.Random(155)
        seen = {True: 0, False: 0}
        for _ in range(60):
            diary = dated_diary(source)
            for second in range(len(diary)):
                for gap in range(-6, 7):
                    possible = is_possible_gap(diary, 0, second, gap)
                    seen[possible] += 1
                    if possible:
                        told = self.assert_told(diary, 0, second, least=gap, most=gap)
                        self.assertIn((second, gap), sure_gaps(told, 0))
                    else:
                        self.assert_refused(diary, 0, second, least=gap, most=gap)
        self.assertGreater(min(seen.values()), 300)

    def test_possible_weekdays(self):
        source = random.Random(156)
        for _ in range(100):
            diary = dated_diary(source)
            for event in range(1, len(diary)):
                free = diary.noting(event, None)
                possible = possible_weekdays(free, event)
                for weekday in range(diary.modulus):
                    careful = CarefulDiary(free)
                    if weekday in possible:
                        self.assertIsNone(careful.note(event, weekday))
                        self.assertEqual(possible_weekdays(careful.diary, event), (weekday,))
                    else:
                        self.assert_reason(free.noting(event, weekday), careful.note, event, weekday)


if __name__ == "__main__":
    unittest.main()
