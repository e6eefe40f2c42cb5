"""Near labels, by posts: from two of them a length is told that is at most three times too great."""

from labelways.errors import NoPosts
from labelways.kinds import are_places
from labelways.lengths import lengths


def near_labels(web, posts):
    if not are_places(web[0], posts):
        raise NoPosts("these are no posts of the web")
    return tuple([near_label(place, row, posts) for place, row in enumerate(lengths(web))])


def near_label(place, row, posts):
    far = reached(row, posts)
    # The posts rise, so of several as near the least is taken.
    home = min(far, key=lambda pair: pair[1], default=None)
    near = [pair for pair in reached(row, list(range(len(row)))) if home is None or pair[1] < home[1]]
    return (place, home, tuple(near), tuple(far))


def reached(row, places):
    return [(place, row[place]) for place in places if row[place] is not None]


def near_told(one, other):
    found = lengths_in(other[2], one[0]) + lengths_in(one[2], other[0])
    if found:
        return found[0]
    return min(sums_by_home(one, other) + sums_by_home(other, one), default=None)


def lengths_in(pairs, place):
    return [long for other, long in pairs if other == place]


def sums_by_home(one, other):
    home = one[1]
    if home is None:
        return []
    return [home[1] + long for long in lengths_in(other[3], home[0])]
