"""Texts: diaries written as lines of words, and read from them."""

from weekdaylegs.diaries import Diary, is_within
from weekdaylegs.errors import ParseError

MAX_DIGITS = 10
UNDATED = "-"


def diary_text(diary):
    """Return the text of a diary."""
    lines = [f"modulus {diary.modulus}"]
    lines.extend([f"event {weekday_word(weekday)}" for weekday in diary.weekdays])
    lines.extend([f"bound {first} {last} {most}" for first, last, most in diary.bounds])
    return "\n".join(lines)


def weekday_word(weekday):
    """Return the word for a weekday, or for None."""
    return UNDATED if weekday is None else str(weekday)


def number_of(word):
    """Return the integer that a word stands for, or None if no integer is written like this."""
    digits = word.removeprefix("-")
    # Python refuses to read integers of thousands of digits.
    if len(digits) > MAX_DIGITS or not (digits.isascii() and digits.isdigit()):
        return None
    number = int(word)
    return number if str(number) == word else None


def read_diary(text):
    """Return the diary of a text, and raise ParseError for another value."""
    if not isinstance(text, str):
        raise ParseError(0, 0)
    rows = text.split("\n")
    modulus = read_numbers(1, words_of(1, rows[0]), "modulus", ((2, Diary.MAX_MODULUS),))[0]
    if len(rows) == 1:
        raise ParseError(2, 1)
    weekdays = []
    bounds = []
    for line, row in enumerate(rows[1:], start=2):
        words = words_of(line, row)
        if is_next(words, "event", weekdays, Diary.MAX_EVENTS) and not bounds:
            weekdays.append(read_weekday(line, words, modulus))
        elif is_next(words, "bound", bounds, Diary.MAX_BOUNDS) and weekdays:
            bounds.append(read_bound(line, words, len(weekdays)))
        else:
            raise ParseError(line, 1)
    return Diary(modulus, tuple(weekdays), tuple(bounds))


def words_of(line, row):
    """Return the words of a line, and raise ParseError if a space is at a wrong place."""
    words = row.split(" ")
    if "" in words:
        raise ParseError(line, 0)
    return words


def is_next(words, name, found, most):
    """Tell whether a line has this name, and fewer lines with it than the most were found."""
    return words[0] == name and len(found) < most


def read_weekday(line, words, modulus):
    """Return the weekday in a line "event", or None for an undated event."""
    if words[1:2] == [UNDATED]:
        need_end(line, words, 2)
        return None
    return read_numbers(line, words, "event", ((0, modulus - 1),))[0]


def read_bound(line, words, many):
    """Return the bound in a line "bound" of a diary with so many events."""
    events = (0, many - 1)
    return read_numbers(line, words, "bound", (events, events, (-Diary.MAX_DAYS, Diary.MAX_DAYS)))


def read_numbers(line, words, name, ranges):
    """Return the integers behind the name that begins a line, each of them in its own range."""
    if words[0] != name:
        raise ParseError(line, 1)
    numbers = []
    for spot, (low, high) in enumerate(ranges, start=1):
        number = number_of(words[spot]) if spot < len(words) else None
        if not is_within(number, low, high):
            raise ParseError(line, spot + 1)
        numbers.append(number)
    need_end(line, words, 1 + len(ranges))
    return tuple(numbers)


def need_end(line, words, many):
    """Raise ParseError if a line has more words than so many."""
    if len(words) > many:
        raise ParseError(line, many + 1)
