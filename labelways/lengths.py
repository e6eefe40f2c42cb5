"""Lengths of ways, and the places that stand on shortest ones."""

from labelways.webs import long_of, ties_at


def lengths(web):
    return tuple([lengths_from(web, place) for place in range(web[0])])


def lengths_from(web, start):
    known = [None] * web[0]
    waiting = {start: 0}
    while waiting:
        # Ties are 1 long or more, so nothing that waits can still shorten the nearest.
        place = nearest(waiting)
        known[place] = waiting.pop(place)
        for other, long in ties_at(web, place):
            if known[other] is None:
                far = known[place] + long
                waiting[other] = min(far, waiting.get(other, far))
    return tuple(known)


def nearest(waiting):
    return min(sorted(waiting), key=lambda place: waiting[place])


def way_length(web, places):
    if len(places) == 0:
        return None
    longs = [long_of(web, places[k - 1], places[k]) for k in range(1, len(places))]
    if None in longs:
        return None
    return sum(longs)


def between(web, one, other):
    return between_rows(lengths_from(web, one), lengths_from(web, other), other)


def between_rows(here, there, other):
    if here[other] is None:
        return ()
    # Both ends lie in one joined part here, so a place that one reaches the other reaches too.
    reached = [place for place in range(len(here)) if here[place] is not None]
    return tuple([place for place in reached if here[place] + there[place] == here[other]])


def next_places(web, one, other):
    return next_by_row(web, one, lengths_from(web, other))


def next_by_row(web, one, there):
    if there[one] is None:
        return ()
    return tuple([place for place, long in ties_at(web, one) if long + there[place] == there[one]])
