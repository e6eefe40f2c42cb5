"""Rings: labels by how far a place stands along the going round."""

from labelways.errors import NoRing
from labelways.webs import beside, is_whole, long_of


def is_ring(web):
    if web[0] < 3 or not is_whole(web):
        return False
    return all([len(beside(web, place)) == 2 for place in range(web[0])])


def going_round(web):
    # Those beside a place rise, so the first of them is the lesser one.
    met = [0, beside(web, 0)[0]]
    while len(met) < web[0]:
        met.append(next_round(web, met[-2], met[-1]))
    return met


def next_round(web, back, place):
    return [other for other in beside(web, place) if other != back][0]


def ring_labels(web):
    if not is_ring(web):
        raise NoRing("the web is no ring")
    places = going_round(web)
    whole = sum([long for a, b, long in web[1]])
    along = 0
    labels = {}
    for k, place in enumerate(places):
        fore = places[(k + 1) % len(places)]
        labels[place] = (along, whole, fore, places[k - 1])
        along += long_of(web, place, fore)
    return tuple([labels[place] for place in range(web[0])])


def ring_told(one, other):
    apart = abs(one[0] - other[0])
    return min(apart, one[1] - apart)


def ring_step(one, other):
    if one[0] == other[0]:
        return None
    ahead = (other[0] - one[0]) % one[1]
    return one[2] if 2 * ahead <= one[1] else one[3]
