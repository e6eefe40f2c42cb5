"""A keeper: labels by an order, kept right as ties come and go."""

from labelways.errors import NoTie
from labelways.kinds import is_place
from labelways.labels import next_step, told
from labelways.orders import by_order
from labelways.webs import MOST_TIES, is_long, long_of


class Keeper:
    def __init__(self, web, order):
        self.labels = by_order(web, order)
        self.web = web
        self.order = order

    def put(self, one, other, long):
        return self.turn_to(with_tie(self.web, one, other, long))

    def strike(self, one, other):
        return self.turn_to(without_tie(self.web, one, other))

    def turn_to(self, web):
        ahead = self.labels
        self.labels = by_order(web, self.order)
        self.web = web
        return tuple([place for place in range(web[0]) if self.labels[place] != ahead[place]])

    def web_now(self):
        return self.web

    def labels_now(self):
        return self.labels

    def length_of(self, one, other):
        return told(self.labels[one], self.labels[other])

    def step_of(self, one, other):
        return next_step(self.labels[one], self.labels[other])


def with_tie(web, one, other, long):
    pair = pair_of(web, one, other)
    if not is_long(long):
        raise NoTie("no tie is so long")
    # A tie in the place of another one is none more.
    if long_of(web, one, other) is None and len(web[1]) >= MOST_TIES:
        raise NoTie("there are as many ties as there may be")
    return (web[0], tuple(sorted(ties_but(web, pair) + [pair + (long,)])))


def without_tie(web, one, other):
    pair = pair_of(web, one, other)
    if long_of(web, one, other) is None:
        raise NoTie("there is no tie between these places")
    return (web[0], tuple(ties_but(web, pair)))


def pair_of(web, one, other):
    # Only numbers can be asked which is the lesser one.
    if not is_place(web[0], one) or not is_place(web[0], other) or one == other:
        raise NoTie("these are not two unlike places")
    return (min(one, other), max(one, other))


def ties_but(web, pair):
    return [tie for tie in web[1] if tie[:2] != pair]
