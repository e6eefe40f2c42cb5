"""Webs for the tests, and what the document asks of them told anew, without the program."""

import itertools


def nested(kind, depth):
    thing = kind()
    for _ in range(depth - 1):
        thing = kind([thing])
    return thing


def with_kinds(thing):
    """The thing with each kind written beside it: == takes True for 1."""
    if isinstance(thing, (list, tuple)):
        return (type(thing).__name__, [with_kinds(one) for one in thing])
    return (type(thing).__name__, thing)


def small_webs():
    """Every web of four places whose ties are 1, 2 or 3 long."""
    pairs = list(itertools.combinations(range(4), 2))
    for longs in itertools.product((None, 1, 2, 3), repeat=len(pairs)):
        yield (4, tuple((a, b, long) for (a, b), long in zip(pairs, longs) if long))


def great_webs():
    """Webs of 24 places with crosswise numbers and various longs, some whole, some in parts."""
    pairs = list(itertools.combinations(range(24), 2))
    for step, count in [(5, 60), (7, 60), (29, 60), (11, 30), (13, 24), (35, 18)]:
        chosen = sorted(pairs[(step * k) % 276] for k in range(count))
        yield (24, tuple((a, b, 1 + (step * a + 17 * b) % 99) for a, b in chosen))
    yield (24, tuple((a, b, 1) for a, b in pairs if b - a in (1, 6))[:60])


def joined_by_hand(web):
    found = {}
    for a, b, long in web[1]:
        found[a, b] = long
        found[b, a] = long
    return found


def simple_ways(web, one, other):
    """Every way that meets no place twice, with its length, told from the ties alone."""
    ties = joined_by_hand(web)
    inner = [place for place in range(web[0]) if place not in (one, other)]
    found = []
    for count in range(len(inner) + 1):
        for row in itertools.permutations(inner, count):
            way = (one,) + row + (other,)
            steps = list(zip(way, way[1:]))
            if all(step in ties for step in steps):
                found.append((way, sum(ties[step] for step in steps)))
    return found


def shortest_ways(web, one, other):
    if one == other:
        return [(one,)], 0
    found = simple_ways(web, one, other)
    least = min((length for way, length in found), default=None)
    return [way for way, length in found if length == least], least


def lengths_by_hand(web):
    """Lengths by letting one place more at a time stand within a way."""
    n = web[0]
    ties = joined_by_hand(web)
    far = 10 ** 9
    rows = [[0 if a == b else ties.get((a, b), far) for b in range(n)] for a in range(n)]
    for via in range(n):
        for a in range(n):
            for b in range(n):
                rows[a][b] = min(rows[a][b], rows[a][via] + rows[via][b])
    return tuple(tuple(None if long >= far else long for long in row) for row in rows)


def all_orders(n):
    return list(itertools.permutations(range(n)))


def great_orders():
    """Orders of 24 places, rising, falling and crosswise."""
    yield tuple(range(24))
    yield tuple(reversed(range(24)))
    for step, start in [(5, 0), (7, 3), (11, 12)]:
        yield tuple((step * k + start) % 24 for k in range(24))


def own(place):
    """The entry of a label's own place."""
    return (place, 0, None, None)


def entry_by_hand(web, rows, place, hub):
    if place == hub:
        return own(place)
    ties = joined_by_hand(web)
    ups = [p for p in range(web[0]) if (place, p) in ties and rows[p][hub] == rows[place][hub] - ties[place, p]]
    downs = [p for p in range(web[0]) if (hub, p) in ties and rows[p][place] == rows[place][hub] - ties[hub, p]]
    return (hub, rows[place][hub], ups[0], downs[0])


def full_labels(web):
    """Labels in which each place that can be reached is a hub; as a rule they come by no order."""
    rows = lengths_by_hand(web)
    every = range(web[0])
    return tuple(tuple(entry_by_hand(web, rows, v, h) for h in every if rows[v][h] is not None) for v in every)


def labels_by_hand(web, order):
    """Of each two places the first one on their shortest ways is sought, place by place."""
    rows = lengths_by_hand(web)
    labels = []
    for v in range(web[0]):
        hubs = []
        for h in range(web[0]):
            if rows[v][h] is not None:
                on = [p for p in order if rows[h][p] is not None and rows[h][p] + rows[p][v] == rows[h][v]]
                if on[0] == h:
                    hubs.append(h)
        labels.append(tuple(entry_by_hand(web, rows, v, h) for h in hubs))
    return tuple(labels)


def told_by_hand(one, other):
    return min((a[1] + b[1] for a in one for b in other if a[0] == b[0]), default=None)


def fault_by_hand(web, labels):
    """The first word with a fault and its at, None where there is none; of things that are LABELS."""
    n = web[0]
    ties = joined_by_hand(web)
    longs = [{entry[0]: entry[1] for entry in label} for label in labels]
    far = [(v, *entry) for v in range(n) for entry in labels[v] if entry[1] > 0]
    strange = [v for v in range(n) if longs[v].get(v) != 0]
    up = [(v, h) for v, h, long, up, down in far
          if (v, up) not in ties or h not in longs[up] or longs[up][h] + ties[v, up] != long]
    rows = [[told_by_hand(one, other) for other in labels] for one in labels]
    tie = [(u, v, w) for u in range(n) for v, w in ties
           if rows[v][u] is not None and (rows[w][u] is None or rows[w][u] > rows[v][u] + ties[v, w])]
    down = [(v, h) for v, h, long, up, down in far
            if (h, down) not in ties or rows[down][v] is None or rows[down][v] + ties[h, down] != long]
    for word, found in [("own", strange), ("up", up), ("tie", tie), ("down", down)]:
        if found:
            return (word, min(found))
    return None


def turned_entries(n, entry):
    """The entry, one of a long, turned in one part to what may still stand in a LABEL."""
    hub, long, up, down = entry
    found = [(hub, long + more, up, down) for more in (-2, -1, 1, 2) if long + more > 0]
    found += [(hub, long, p, down) for p in range(n) if p != up]
    found += [(hub, long, up, p) for p in range(n) if p != down]
    return found


def new_entries(n, label):
    """Entries of hubs that the label lacks."""
    hubs = [entry[0] for entry in label]
    lacks = [hub for hub in range(n) if hub not in hubs]
    return list(itertools.product(lacks, (1, 2, 3), range(n), range(n)))


def put_in(labels, place, entries):
    """The labels with another label for the place."""
    return labels[:place] + (tuple(sorted(entries, key=lambda entry: entry[0])),) + labels[place + 1:]


def turned_labels(n, labels):
    """LABELS that differ from these in one entry: gone, turned or new."""
    for v, label in enumerate(labels):
        for k, entry in enumerate(label):
            rest = label[:k] + label[k + 1:]
            if entry[1] > 0:
                yield put_in(labels, v, rest)
                for other in turned_entries(n, entry):
                    yield put_in(labels, v, rest + (other,))
        for entry in new_entries(n, label):
            yield put_in(labels, v, label + (entry,))
