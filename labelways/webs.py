"""Webs: whether a thing is one, and what its ties tell of its places."""

from labelways.kinds import is_place, is_rising, is_tuple_of, is_within

MOST_PLACES = 24
MOST_TIES = 60
MOST_LONG = 99


def is_web(thing):
    if not is_tuple_of(thing, 2):
        return False
    return is_within(thing[0], 1, MOST_PLACES) and are_ties(thing[0], thing[1])


def are_ties(n, thing):
    # How many there are is asked first, for a thing may be as long as it likes.
    if not isinstance(thing, tuple) or len(thing) > MOST_TIES:
        return False
    if not all([is_tie(n, tie) for tie in thing]):
        return False
    # The longs are left out, else two places joined twice could pass as rising.
    return is_rising([tie[:2] for tie in thing])


def is_tie(n, thing):
    if not is_tuple_of(thing, 3):
        return False
    if not is_place(n, thing[0]) or not is_place(n, thing[1]):
        return False
    return thing[0] < thing[1] and is_long(thing[2])


def is_long(thing):
    return is_within(thing, 1, MOST_LONG)


def ties_at(web, place):
    found = []
    for a, b, long in web[1]:
        if a == place:
            found.append((b, long))
        if b == place:
            found.append((a, long))
    return sorted(found)


def long_of(web, one, other):
    for place, long in ties_at(web, one):
        if place == other:
            return long
    return None


def beside(web, place):
    return tuple([other for other, long in ties_at(web, place)])


def is_whole(web):
    return len(joined_within(web, list(range(web[0])), 0)) == web[0]


def joined_within(web, places, start):
    met = [start]
    gone = 0
    while gone < len(met):
        for place in beside(web, met[gone]):
            if place in places and place not in met:
                met.append(place)
        gone += 1
    return sorted(met)
