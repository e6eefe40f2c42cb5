"""Orders of a web's places, and the labels that come by one."""

from labelways.errors import NoOrder
from labelways.kinds import is_place, is_tuple_of
from labelways.lengths import between_rows, lengths, next_by_row


def is_order(web, thing):
    n = web[0]
    if not is_tuple_of(thing, n) or not all([is_place(n, place) for place in thing]):
        return False
    return len(set(thing)) == n


def by_order(web, order):
    if not is_order(web, order):
        raise NoOrder("this is no order of the web")
    rows = lengths(web)
    ranks = [order.index(place) for place in range(web[0])]
    return tuple([label_by_ranks(web, rows, ranks, place) for place in range(web[0])])


def label_by_ranks(web, rows, ranks, place):
    hubs = [hub for hub in range(web[0]) if is_hub(rows, ranks, hub, place)]
    return tuple([entry_by_rows(web, rows, place, hub) for hub in hubs])


def is_hub(rows, ranks, hub, place):
    if rows[hub][place] is None:
        return False
    return all([ranks[hub] <= ranks[other] for other in between_rows(rows[hub], rows[place], place)])


def entry_by_rows(web, rows, place, hub):
    # A place has no next places to itself, so its own entry gets None for both.
    up = min(next_by_row(web, place, rows[hub]), default=None)
    down = min(next_by_row(web, hub, rows[place]), default=None)
    return (hub, rows[place][hub], up, down)


def total(labels):
    return sum([len(label) for label in labels])


def longest(labels):
    return max([len(label) for label in labels])
