"""Webs as lines, and lines read as a web."""

from labelways.errors import NoText
from labelways.kinds import number_in
from labelways.webs import MOST_LONG, MOST_PLACES, MOST_TIES


def web_lines(web):
    n = web[0]
    return [f"web {n}"] + [f"tie {a} {b} {long}" for a, b, long in web[1]]


def read_web(lines):
    if len(lines) == 0:
        raise NoText(0, 0)
    n = read_count(lines[0])
    ties = []
    for at, line in enumerate(lines[1:], start=1):
        if len(ties) == MOST_TIES:
            raise NoText(at, 0)
        ties.append(read_tie(n, ties, at, line))
    return (n, tuple(ties))


def read_count(line):
    words = words_of(0, line, "web")
    n = number_at(0, words, 1, 1, MOST_PLACES)
    refuse_more(0, words, 2)
    return n


def read_tie(n, ahead, at, line):
    words = words_of(at, line, "tie")
    a = number_at(at, words, 1, least_a(ahead), n - 1)
    b = number_at(at, words, 2, least_b(ahead, a), n - 1)
    long = number_at(at, words, 3, 1, MOST_LONG)
    refuse_more(at, words, 4)
    return (a, b, long)


def least_a(ahead):
    return ahead[-1][0] if ahead else 0


def least_b(ahead, a):
    if ahead and ahead[-1][0] == a:
        return ahead[-1][1] + 1
    return a + 1


def words_of(at, line, first):
    words = line.split(" ")
    if words[0] != first:
        raise NoText(at, 0)
    return words


def number_at(at, words, k, least, most):
    # A word that lacks is told as one that can't stand: its number is how many there are.
    number = number_in(words[k], least, most) if k < len(words) else None
    if number is None:
        raise NoText(at, k)
    return number


def refuse_more(at, words, count):
    if len(words) > count:
        raise NoText(at, count)
