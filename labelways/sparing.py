"""Entries that labels can spare."""

from labelways.labels import far_entries, told


def can_go(labels):
    return [(place, entry[0]) for place, entry in far_entries(labels) if is_spare(labels, place, entry)]


def is_spare(labels, place, entry):
    label = labels[place]
    rest = tuple([other for other in label if other != entry])
    # With itself the label tells 0 either way, as its own entry stays.
    return all([told(rest, other) == told(label, other) for other in labels])
