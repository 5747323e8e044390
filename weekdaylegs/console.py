"""The console: commands in words that change a live diary and ask about it."""

from weekdaylegs.certainty import possible_weekdays
from weekdaylegs.decisions import decide
from weekdaylegs.diaries import Diary
from weekdaylegs.errors import (
    InvalidDiary,
    InvalidEvent,
    InvalidNumber,
    InvalidWindow,
    LimitExceeded,
    NoCalendar,
    NothingToUndo,
)
from weekdaylegs.gaps import greatest_gap, least_gap
from weekdaylegs.live import LiveDiary
from weekdaylegs.texts import UNDATED, number_of
from weekdaylegs.windows import count_calendars

# What follows the word of a command: i for an integer, w for a weekday.
FORMS = {
    "most": "iii",
    "least": "iii",
    "note": "iw",
    "undo": "",
    "decide": "",
    "gap": "ii",
    "weekdays": "i",
    "count": "ii",
}


def form_of(words):
    """Return what must follow the first word of a command, or None if no command begins with it."""
    if words[0] == "new":
        return "i" + "w" * max(1, len(words) - 2)
    return FORMS.get(words[0])


def is_value(word, kind):
    """Tell whether a word is an integer, or else a weekday that may be left open."""
    return number_of(word) is not None or (kind == "w" and word == UNDATED)


def read_command(command):
    """Return the word of a command and the list of its values, or None for another value."""
    if not isinstance(command, str):
        return None
    words = command.split(" ")
    form = form_of(words)
    if form is None or len(words) != 1 + len(form):
        return None
    if not all([is_value(word, kind) for word, kind in zip(words[1:], form)]):
        return None
    return words[0], [number_of(word) for word in words[1:]]


def tell_most(live, values):
    """Tell the greatest gap between two events."""
    first, second, days = values
    live.tell(first, second, most=days)
    return "ok"


def tell_least(live, values):
    """Tell the least gap between two events."""
    first, second, days = values
    live.tell(first, second, least=days)
    return "ok"


def note_weekday(live, values):
    """Note an event with a weekday, or without one."""
    event, weekday = values
    live.note(event, weekday)
    return "ok"


def undo_change(live, values):
    """Undo the latest change."""
    live.undo()
    return "ok"


def kind_of_answer(live, values):
    """Return the word for the kind of the decision."""
    return decide(live.diary)[0]


def gap_ends(live, values):
    """Return the least and the greatest gap between two events."""
    first, second = values
    return f"{end_of(least_gap(live.diary, first, second))} {end_of(greatest_gap(live.diary, first, second))}"


def end_of(answer):
    """Return the word for the gap in an answer."""
    return "open" if answer[0] == "open" else str(answer[1])


def weekday_list(live, values):
    """Return the weekdays that an event can have."""
    return " ".join([str(weekday) for weekday in possible_weekdays(live.diary, values[0])])


def calendar_count(live, values):
    """Return the number of calendars in a window."""
    low, high = values
    try:
        return str(count_calendars(live.diary, low, high))
    except LimitExceeded:
        return "too many calendars"


ACTIONS = {
    "most": tell_most,
    "least": tell_least,
    "note": note_weekday,
    "undo": undo_change,
    "decide": kind_of_answer,
    "gap": gap_ends,
    "weekdays": weekday_list,
    "count": calendar_count,
}


class Console:
    """A place for a live diary that commands change and ask about."""

    def __init__(self):
        self._live = None

    def run(self, command):
        """Return the result of a command, or what is wrong with it."""
        told = read_command(command)
        if told is None:
            return "bad command"
        word, values = told
        if word != "new" and self._live is None:
            return "no diary"
        try:
            return self._answer(word, values)
        except InvalidDiary:
            return "bad diary"
        except InvalidEvent:
            return "bad event"
        except InvalidNumber:
            return "bad number"
        except InvalidWindow:
            return "bad window"
        except NoCalendar:
            return "no calendar"
        except NothingToUndo:
            return "nothing to undo"
        except LimitExceeded:
            return "too many changes"

    def _answer(self, word, values):
        """Return the result of a command that can fail only with an exception."""
        if word == "new":
            self._live = LiveDiary(Diary.of(*values))
            return "ok"
        action = ACTIONS[word]
        return action(self._live, values)
