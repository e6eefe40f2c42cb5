"""Labels as lines, and lines read as labels."""

from labelways.errors import NoText
from labelways.kinds import number_in
from labelways.webs import MOST_PLACES

MOST_WRITTEN_LONG = 999999999999


def label_lines(labels):
    return [label_line(label) for label in labels]


def label_line(label):
    return " ".join(["label"] + [entry_word(entry) for entry in label])


def entry_word(entry):
    return ":".join([number_word(number) for number in entry])


def number_word(number):
    return "-" if number is None else str(number)


def read_labels(lines):
    if len(lines) == 0:
        raise NoText(0, 0)
    return tuple([read_label(len(lines), at, line) for at, line in enumerate(lines)])


def read_label(n, at, line):
    words = line.split(" ")
    if at >= MOST_PLACES or words[0] != "label":
        raise NoText(at, 0)
    label = []
    for k, word in enumerate(words[1:], start=1):
        entry = entry_in(n, label, word)
        if entry is None:
            raise NoText(at, k)
        label.append(entry)
    if not has_own_place(label):
        raise NoText(at, len(words))
    return tuple(label)


def entry_in(n, ahead, word):
    parts = word.split(":")
    if len(parts) != 4:
        return None
    hub = number_in(parts[0], ahead[-1][0] + 1 if ahead else 0, n - 1)
    long = number_in(parts[1], 0, MOST_WRITTEN_LONG)
    if hub is None or long is None:
        return None
    if long == 0:
        return own_entry(ahead, hub, parts)
    return far_entry(n, hub, long, parts)


def own_entry(ahead, hub, parts):
    if has_own_place(ahead) or parts[2] != "-" or parts[3] != "-":
        return None
    return (hub, 0, None, None)


def far_entry(n, hub, long, parts):
    up = number_in(parts[2], 0, n - 1)
    down = number_in(parts[3], 0, n - 1)
    if up is None or down is None:
        return None
    return (hub, long, up, down)


def has_own_place(entries):
    return any([entry[1] == 0 for entry in entries])
