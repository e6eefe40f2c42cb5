"""Lines of webs and of labels: which words can stand in them, told without the program, and lines with faults."""

import re

# What writes no number: a nought ahead, signs, other figures, other things, very many figures.
NO_NUMBERS = [
    "00", "01", "02", "007", "0" * 1900, "0" * 1900 + "1", "+1", "-1", "-0", "+0", "--1", "1.", "1.0", ".1", "1e0",
    "0x1", "0b1", "1_0", "1_", "_1", "1,", "1;", "1:", "(1)", "[1]", "'1'", "1a", "a1", "one", "None", "True", "I",
    "\u0661", "\u00b2", "\uff11", "1\u0661", "\t1", "1\n", "1" * 1900, "9" * 5000, "1" + "0" * 19000, "~", "!",
]


def web_lines_by_hand(web):
    return ["web " + str(web[0])] + [" ".join(["tie"] + [str(number) for number in tie]) for tie in web[1]]


def label_lines_by_hand(labels):
    found = []
    for label in labels:
        words = [":".join("-" if number is None else str(number) for number in entry) for entry in label]
        found.append(" ".join(["label"] + words))
    return found


def written(least, most):
    """The numbers from the least to the most as they are written."""
    return [str(number) for number in range(least, most + 1)]


def web_words(lines, k, j):
    """The words that can stand in a web's line k as word j, by what stands ahead."""
    if k == 0:
        return [["web"], written(1, 24), []][min(j, 2)]
    if k > 60:
        return []
    n = int(lines[0].split(" ")[1])
    ahead = lines[k - 1].split(" ") if k > 1 else ["tie", "0", "0"]
    words = lines[k].split(" ")
    if j == 2:
        above = max(int(words[1]), int(ahead[2]) if words[1] == ahead[1] else 0)
        return written(above + 1, n - 1)
    return [["tie"], written(int(ahead[1]), n - 1), None, written(1, 99), []][min(j, 4)]


def web_text_fault(lines):
    """The line and the word with which the lines are refused, None where they write a web."""
    if not lines:
        return (0, 0)
    for k, line in enumerate(lines):
        words = line.split(" ")
        for j, word in enumerate(words):
            if word not in web_words(lines, k, j):
                return (k, j)
        if len(words) < (4 if k else 2):
            return (k, len(words))
    return None


def can_stand_in_label(n, ahead, word):
    """Whether the word can stand in a line of labels behind these entries' words."""
    number = "(0|[1-9][0-9]*)"
    if re.fullmatch(f"{number}:(0:-:-|[1-9][0-9]{{0,11}}:{number}:{number})", word) is None:
        return False
    parts = word.split(":")
    if any(part not in written(0, n - 1) for part in parts[:1] + [part for part in parts[2:] if part != "-"]):
        return False
    hubs = [int(other.split(":")[0]) for other in ahead]
    if parts[1] == "0" and any(other.split(":")[1] == "0" for other in ahead):
        return False
    return int(parts[0]) > max(hubs, default=-1)


def labels_text_fault(lines):
    """The line and the word with which the lines are refused, None where they write LABELS."""
    if not lines:
        return (0, 0)
    for k, line in enumerate(lines):
        words = line.split(" ")
        if k == 24 or words[0] != "label":
            return (k, 0)
        for j in range(1, len(words)):
            if not can_stand_in_label(len(lines), words[1:j], words[j]):
                return (k, j)
        if not any(word.split(":")[1] == "0" for word in words[1:]):
            return (k, len(words))
    return None


def turned_words(lines, k, j, others):
    """The lines with word j of line k turned to each of the others, with one more ahead of it, and without it."""
    words = lines[k].split(" ")
    rows = [words[:j] + words[j + 1:]]
    rows += [words[:j] + [other] + words[j + 1:] for other in others]
    rows += [words[:j] + [other] + words[j:] for other in others]
    rows.append(words + [words[j]])
    rows.append(words[:j])
    for row in rows:
        yield lines[:k] + [" ".join(row)] + lines[k + 1:]


def turned_lines(lines, others):
    """The lines with one word turned, more or lacking, or with one line gone, twice there or in another place."""
    for k, line in enumerate(lines):
        for j in range(len(line.split(" "))):
            yield from turned_words(lines, k, j, others)
        yield lines[:k] + lines[k + 1:]
        yield lines[:k] + [line] + lines[k:]
        yield lines + [line]
        yield [line] + lines
        yield lines[:k] + [line[:-1]] + lines[k + 1:]
        yield lines[:k] + lines[k + 1:k + 2] + [line] + lines[k + 2:]
        yield lines[:k] + [""] + lines[k + 1:]
