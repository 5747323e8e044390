"""Routes: the least ways between events, made of bounds or of legs in a row.

A dict of routes has the keys (first, last) and the values (total, parts): a way
from the event first to the event last, its total, and its parts as a tuple.
"""

from weekdaylegs.legs import leg_length


def keep_less(routes, ends, total, parts):
    """Keep this way in the routes, unless the one that is there is as good."""
    if ends not in routes or total < routes[ends][0]:
        routes[ends] = (total, parts)


def bound_routes(diary):
    """Return the routes of one bound each."""
    routes = {}
    for number, (first, last, most) in enumerate(diary.bounds):
        keep_less(routes, (first, last), most, (number,))
    return routes


def leg_routes(diary, walks):
    """Return the routes of one leg each, given the least walks over undated events."""
    routes = {}
    places = list(diary.events())
    for ends in walks:
        first = places[ends[0]]
        last = places[ends[1]]
        if first.IS_DATED and last.IS_DATED:
            total, numbers = walks[ends]
            routes[ends] = (leg_length(first, last, total), (numbers,))
    return routes


def negative_round(routes, middles):
    """Return the parts of a way from a middle back to it with a negative total, or None."""
    for middle in middles:
        if (middle, middle) in routes:
            total, parts = routes[(middle, middle)]
            if total < 0:
                return parts
    return None


def lead_through(routes, middle, many):
    """Add to the routes, between any of so many events, the ways through this middle."""
    into = [first for first in range(many) if (first, middle) in routes]
    onward = [last for last in range(many) if (middle, last) in routes]
    for first in into:
        for last in onward:
            before, head = routes[(first, middle)]
            after, tail = routes[(middle, last)]
            keep_less(routes, (first, last), before + after, head + tail)


def join_routes(routes, middles, many):
    """Add to the routes the ways through all middles, and return None.

    If some way from a middle back to it has a negative total, there are no least
    ways. Then return the parts of such a way; the routes are not complete.
    """
    for middle in middles:
        # Past a negative round every further middle could double the number of parts.
        parts = negative_round(routes, middles)
        if parts is not None:
            return parts
        lead_through(routes, middle, many)
    return negative_round(routes, middles)
