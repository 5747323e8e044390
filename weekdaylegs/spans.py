"""Spans: how many days later one event can be than another one, in a window.

Spans are a list of rows: spans[first][last] is how much later the event last can be
than the event first. One more row, and one more item in each row, stand for the first
day of the window, as if it were an event that is noted with its weekday.
"""


def window_spans(diary, low, high):
    """Return the spans of a diary in a window, or None if it has no calendar there.

    They are so tight that days can be given to one event after another, first to all
    dated and then to all undated ones: whatever days within the spans were given, the
    next event has one, too.
    """
    noted = diary.weekdays + (low % diary.modulus,)
    undated = [event for event, weekday in enumerate(noted) if weekday is None]
    dated = [event for event, weekday in enumerate(noted) if weekday is not None]
    rows = lead_through(bound_spans(diary, high - low), undated)
    for first in dated:
        for last in dated:
            rows[first][last] -= (rows[first][last] + noted[first] - noted[last]) % diary.modulus
    rows = lead_through(rows, dated)
    # A ring or a loop that is negative cannot be kept by any days.
    return None if any([row[event] < 0 for event, row in enumerate(rows)]) else rows


def bound_spans(diary, most):
    """Return the spans that follow from single bounds, and from a window of so many days more than one."""
    many = len(diary)
    rows = [[most] * many + [0] for _ in range(many + 1)]
    for event in range(many):
        rows[event][event] = 0
    for first, last, days in diary.bounds:
        rows[first][last] = min(rows[first][last], days)
    return rows


def lead_through(rows, middles):
    """Return the spans that follow from these and from ways through the middles."""
    for middle in middles:
        onward = rows[middle]
        rows = [lowered(row, row[middle], onward) for row in rows]
    return rows


def lowered(row, before, onward):
    """Return a row of spans, lowered to those through an event that is so many days later."""
    return [days if days < before + after else before + after for days, after in zip(row, onward)]
