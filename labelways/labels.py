"""Labels: whether a thing is one, and what two of them tell by themselves."""

from labelways.kinds import is_number, is_place, is_rising, is_tuple_of


def is_label(n, thing):
    # Hubs rise below n, so what is longer need not be walked.
    if not isinstance(thing, tuple) or len(thing) > n:
        return False
    if not all([is_entry(n, entry) for entry in thing]):
        return False
    longs = [entry[1] for entry in thing]
    return longs.count(0) == 1 and is_rising([entry[0] for entry in thing])


def is_entry(n, thing):
    if not is_tuple_of(thing, 4) or not is_place(n, thing[0]):
        return False
    if not is_number(thing[1]) or thing[1] < 0:
        return False
    if thing[1] == 0:
        return thing[2] is None and thing[3] is None
    return is_place(n, thing[2]) and is_place(n, thing[3])


def are_labels(n, thing):
    return is_tuple_of(thing, n) and all([is_label(n, label) for label in thing])


def own_place(label):
    return [hub for hub, long, up, down in label if long == 0][0]


def told(one, other):
    return least_sum(one, other)[0]


def told_hub(one, other):
    return least_sum(one, other)[1]


def least_sum(one, other):
    longs = dict([(hub, long) for hub, long, up, down in other])
    # The hub stands behind the sum, so of several with one sum the least hub is taken.
    sums = [(long + longs[hub], hub) for hub, long, up, down in one if hub in longs]
    return min(sums, default=(None, None))


def entry_of(label, hub):
    for entry in label:
        if entry[0] == hub:
            return entry
    return None


def far_entries(labels):
    found = []
    for place, label in enumerate(labels):
        found.extend([(place, entry) for entry in label if entry[1] != 0])
    return found


def next_step(one, other):
    hub = told_hub(one, other)
    if hub is None or own_place(one) == own_place(other):
        return None
    if hub == own_place(one):
        return entry_of(other, hub)[3]
    return entry_of(one, hub)[2]


def walk(labels, one, other):
    if told(labels[one], labels[other]) is None:
        return []
    gone = [one]
    while gone[-1] != other:
        gone.append(next_step(labels[gone[-1]], labels[other]))
    return gone
