"""Parts of a web that hold all places between theirs, and what of the whole is cut down to one."""

from labelways.errors import NoPart
from labelways.kinds import are_places
from labelways.lengths import between_rows, lengths


def is_part(web, thing):
    if not are_places(web[0], thing):
        return False
    rows = lengths(web)
    return all([holds_ways_from(rows, thing, place) for place in thing])


def holds_ways_from(rows, places, one):
    for other in places:
        if not all([place in places for place in between_rows(rows[one], rows[other], other)]):
            return False
    return True


def part_web(web, thing):
    if not is_part(web, thing):
        raise NoPart("this is no part of the web")
    # The places rise, so the ties rise by the new numbers, too.
    ties = [new_tie(thing, tie) for tie in web[1] if tie[0] in thing and tie[1] in thing]
    return (len(thing), tuple(ties))


def new_tie(places, tie):
    return (places.index(tie[0]), places.index(tie[1]), tie[2])


def part_order(order, places):
    return tuple([places.index(place) for place in order if place in places])


def cut_down(labels, places):
    return tuple([cut_label(labels[place], places) for place in places])


def cut_label(label, places):
    return tuple([new_entry(places, entry) for entry in label if entry[0] in places])


def new_entry(places, entry):
    if entry[1] == 0:
        return (places.index(entry[0]), 0, None, None)
    # Up and down stand between the hub and the label's place, so the part holds them.
    return (places.index(entry[0]), entry[1], places.index(entry[2]), places.index(entry[3]))
