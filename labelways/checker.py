"""A small checker: whether any thing is labels from which a web's ways are told rightly."""

from labelways.errors import NoLabels
from labelways.labels import are_labels, entry_of, far_entries, own_place, told
from labelways.webs import long_of, ties_at


def lets_labels(web, thing):
    if not are_labels(web[0], thing):
        raise NoLabels("shape", None)
    # Each word leans on those ahead of it, so they are asked one behind the other.
    refuse_at("own", own_fault(thing))
    refuse_at("up", up_fault(web, thing))
    refuse_at("tie", tie_fault(web, thing))
    refuse_at("down", down_fault(web, thing))
    return True


def refuse_at(word, at):
    if at is not None:
        raise NoLabels(word, at)


def own_fault(labels):
    for place, label in enumerate(labels):
        if own_place(label) != place:
            return place
    return None


def up_fault(web, labels):
    for place, entry in far_entries(labels):
        if not is_up_right(web, labels, place, entry):
            return (place, entry[0])
    return None


def is_up_right(web, labels, place, entry):
    tie = long_of(web, place, entry[2])
    above = entry_of(labels[entry[2]], entry[0])
    return tie is not None and above is not None and above[1] == entry[1] - tie


def tie_fault(web, labels):
    for u, label in enumerate(labels):
        row = [told(other, label) for other in labels]
        for v in range(web[0]):
            for w, long in ties_at(web, v):
                if grows_too_much(row[v], row[w], long):
                    return (u, v, w)
    return None


def grows_too_much(here, there, long):
    if here is None:
        return False
    return there is None or there > here + long


def down_fault(web, labels):
    for place, entry in far_entries(labels):
        if not is_down_right(web, labels, place, entry):
            return (place, entry[0])
    return None


def is_down_right(web, labels, place, entry):
    tie = long_of(web, entry[0], entry[3])
    return tie is not None and told(labels[entry[3]], labels[place]) == entry[1] - tie
