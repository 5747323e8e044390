"""Diaries for the tests, and what is true of small ones, found without the program's own ways."""

import itertools

from weekdaylegs.diaries import Diary


def is_bounded(events, bounds):
    """Tell whether days for these bounds alone exist, by lowering them again and again."""
    days = dict.fromkeys(events, 0)
    for _ in range(len(days) + 1):
        lowered = False
        for first, last, most in bounds:
            if days[last] > days[first] + most:
                days[last] = days[first] + most
                lowered = True
        if not lowered:
            return True
    return False


def has_negative_loop(diary):
    """Tell whether the bounds between undated events alone contradict each other."""
    undated = [event for event, weekday in enumerate(diary.weekdays) if weekday is None]
    bounds = [bound for bound in diary.bounds if bound[0] in undated and bound[1] in undated]
    return not is_bounded(undated, bounds)


def all_ways(diary):
    """Return all ways to give weekdays to the events, one after another."""
    choices = [range(diary.modulus) if weekday is None else [weekday] for weekday in diary.weekdays]
    return itertools.product(*choices)


def is_possible(diary):
    """Tell whether there is a calendar, by all ways to give weekdays to undated events."""
    for noted in all_ways(diary):
        tight = [(a, b, w - (w - noted[b] + noted[a]) % diary.modulus) for a, b, w in diary.bounds]
        if is_bounded(range(len(noted)), tight):
            return True
    return False


def all_days(diary, low, high):
    """Return all calendars among all days from low to high."""
    found = []
    for days in itertools.product(range(low, high + 1), repeat=len(diary)):
        fits = all(noted is None or day % diary.modulus == noted for day, noted in zip(days, diary.weekdays))
        if fits and all(days[b] - days[a] <= w for a, b, w in diary.bounds):
            found.append(days)
    return found


def random_diary(source, modulus, events, many, reach):
    """Return a diary with any weekdays and bounds."""
    share = source.random()
    noted = tuple(source.randrange(modulus) if source.random() < share else None for _ in range(events))
    pairs = [(source.randrange(events), source.randrange(events)) for _ in range(many)]
    return Diary(modulus, noted, tuple((a, b, source.randint(-reach, reach + 2)) for a, b in pairs))


def diary_of_days(source, modulus, days, many, slack):
    """Return a diary with these days as a calendar, and with bounds looser by up to slack."""
    share = source.random()
    noted = tuple(day % modulus if source.random() < share else None for day in days)
    pairs = [(source.randrange(len(days)), source.randrange(len(days))) for _ in range(many)]
    bounds = [(a, b, days[b] - days[a] + source.randint(0, slack)) for a, b in pairs]
    return Diary(modulus, noted, tuple(bounds))


def closest(diary, noted):
    """Return the greatest gaps between all events if they have these weekdays, or None without a calendar."""
    events = range(len(noted))
    most = {(a, a): 0 for a in events}
    for a, b, w in diary.bounds:
        tight = w - (w - noted[b] + noted[a]) % diary.modulus
        most[a, b] = min(most.get((a, b), tight), tight)
    for k, a, b in itertools.product(events, repeat=3):
        if (a, k) in most and (k, b) in most:
            total = most[a, k] + most[k, b]
            most[a, b] = min(most.get((a, b), total), total)
    return None if any(most[a, a] < 0 for a in events) else most


def all_closest(diary):
    """Return the pairs (weekdays, greatest gaps) of all ways to give weekdays that have a calendar."""
    found = [(noted, closest(diary, noted)) for noted in all_ways(diary)]
    return [(noted, most) for noted, most in found if most is not None]


def ranges_of(ways, first, second):
    """Return the least and the greatest gap for each weekday of second, None for a missing end."""
    found = {}
    for noted, most in ways:
        least, greatest = most.get((second, first)), most.get((first, second))
        found.setdefault(noted[second], []).append((None if least is None else -least, greatest))
    return {weekday: (least_of(ends), most_of(ends)) for weekday, ends in found.items()}


def least_of(ends):
    """Return the least of the first ends, or None if one is missing."""
    return None if any(least is None for least, _ in ends) else min(least for least, _ in ends)


def most_of(ends):
    """Return the greatest of the second ends, or None if one is missing."""
    return None if any(most is None for _, most in ends) else max(most for _, most in ends)


def small_diary(source):
    """Return a random small diary, often one with a calendar and with hardly any days to spare."""
    modulus, events, many = source.randint(2, 5), source.randint(1, 4), source.randint(0, 7)
    if source.random() < 0.5:
        return random_diary(source, modulus, events, many, source.choice((1, 4, 12)))
    days = [source.randint(-9, 9) for _ in range(events)]
    return diary_of_days(source, modulus, days, many, source.choice((0, 1, 3)))


def small_diaries(source, many, dated=True):
    """Yield random small diaries that have a calendar, with the ways to give weekdays; event 0 is dated if asked."""
    while many:
        diary = small_diary(source)
        if dated and diary.weekdays[0] is None:
            diary = diary.noting(0, source.randrange(diary.modulus))
        ways = all_closest(diary)
        if ways:
            many -= 1
            yield diary, ways


def large_diaries(source, many):
    """Yield pairs of a large diary, in which event 0 is dated, and of the days that it was made of."""
    for _ in range(many):
        modulus = source.choice((2, 7, source.randint(2, 100), 100))
        reach = source.choice((20, 500, 10 ** 8))
        slack = source.choice((0, 1, 5, 100, 4 * 10 ** 8))
        days = tuple(source.randint(-reach, reach) for _ in range(source.randint(2, 16)))
        diary = diary_of_days(source, modulus, days, source.randint(10, 60), slack)
        yield diary.noting(0, days[0] % modulus), days
