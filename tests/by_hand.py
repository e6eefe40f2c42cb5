"""Webs for the tests, and what the document asks of them told anew, without the program."""

import functools
import itertools

# No orders of a web of three places.
NO_ORDERS = [
    (), (0,), (0, 1), (0, 1, 2, 3), (0, 1, 2, 0), (0, 0, 1), (1, 1, 1), (0, 2, 2), (0, 1, 3), (1, 2, 3), (-1, 0, 1),
    (-1, 1, 2), (0, 1, -1), (0, 1, 10 ** 39), (0, 1, -(10 ** 39)), [0, 1, 2], [], [2, 1, 0], ([0, 1, 2],),
    ((0, 1, 2),), ((0, 1, 2), ()), (0, True, 2), (False, 1, 2), (False, True, 2), (0, 2, True), (0, 1, None),
    (None, None, None), (0, 1, "2"), (0, 1, ""), ("0", "1", "2"), (0, 1, (2,)), (0, 1, [2]), (0, 1, ()), (0, [], 2),
    ([], [], []), ((), (), ()), None, True, False, 0, 1, 2, 3, -1, 10 ** 39, "", "012", "0 1 2", "x" * 2000,
]
# No rising tuples of one or more places of three.
NO_PLACES = [
    (), (3,), (-1,), (-1, 0), (0, 3), (2, 3), (0, 1, 2, 3), (1, 0), (2, 1), (2, 1, 0), (0, 2, 1), (0, 0), (1, 1),
    (0, 1, 1), (0, 0, 1, 2), (0, 1, 2, 2), (True,), (False,), (0, True), (False, 1), (True, 2), (None,), (0, None),
    (None, 0), ("0",), ("",), (0, "1"), ("0", "1"), ((0,),), ((0, 1),), (0, (1,)), ([0],), (0, [1]), ([],), ((),),
    (0, ()), [], [0], [0, 1], [0, 1, 2], [[0]], [(0,)], 0, 1, 2, 3, -1, True, False, None, "", "0", "012", "x" * 2000,
    (10 ** 39,), (0, 10 ** 39), (-(10 ** 39), 0), 10 ** 39, (0, 1, 10 ** 39),
]


def nested(kind, depth):
    thing = kind()
    for _ in range(depth - 1):
        thing = kind([thing])
    return thing


def with_kinds(thing):
    """The thing with each kind written beside it: == takes True for 1."""
    if isinstance(thing, (list, tuple)):
        return (type(thing).__name__, [with_kinds(one) for one in thing])
    return (type(thing).__name__, thing)


def small_webs():
    """Every web of four places whose ties are 1, 2 or 3 long."""
    pairs = list(itertools.combinations(range(4), 2))
    for longs in itertools.product((None, 1, 2, 3), repeat=len(pairs)):
        yield (4, tuple((a, b, long) for (a, b), long in zip(pairs, longs) if long))


def great_webs():
    """Webs of 24 places with crosswise numbers and various longs, some whole, some in parts."""
    pairs = list(itertools.combinations(range(24), 2))
    for step, count in [(5, 60), (7, 60), (29, 60), (11, 30), (13, 24), (35, 18)]:
        chosen = sorted(pairs[(step * k) % 276] for k in range(count))
        yield (24, tuple((a, b, 1 + (step * a + 17 * b) % 99) for a, b in chosen))
    yield (24, tuple((a, b, 1) for a, b in pairs if b - a in (1, 6))[:60])


def joined_by_hand(web):
    found = {}
    for a, b, long in web[1]:
        found[a, b] = long
        found[b, a] = long
    return found


def simple_ways(web, one, other):
    """Every way that meets no place twice, with its length, told from the ties alone."""
    ties = joined_by_hand(web)
    inner = [place for place in range(web[0]) if place not in (one, other)]
    found = []
    for count in range(len(inner) + 1):
        for row in itertools.permutations(inner, count):
            way = (one,) + row + (other,)
            steps = list(zip(way, way[1:]))
            if all(step in ties for step in steps):
                found.append((way, sum(ties[step] for step in steps)))
    return found


def shortest_ways(web, one, other):
    if one == other:
        return [(one,)], 0
    found = simple_ways(web, one, other)
    least = min((length for way, length in found), default=None)
    return [way for way, length in found if length == least], least


@functools.lru_cache(maxsize=None)
def lengths_by_hand(web):
    """Lengths by letting one place more at a time stand within a way."""
    n = web[0]
    ties = joined_by_hand(web)
    far = 10 ** 9
    rows = [[0 if a == b else ties.get((a, b), far) for b in range(n)] for a in range(n)]
    for via in range(n):
        for a in range(n):
            for b in range(n):
                rows[a][b] = min(rows[a][b], rows[a][via] + rows[via][b])
    return tuple(tuple(None if long >= far else long for long in row) for row in rows)


def all_orders(n):
    return list(itertools.permutations(range(n)))


def great_orders():
    """Orders of 24 places, rising, falling and crosswise."""
    yield tuple(range(24))
    yield tuple(reversed(range(24)))
    for step, start in [(5, 0), (7, 3), (11, 12)]:
        yield tuple((step * k + start) % 24 for k in range(24))


def own(place):
    """The entry of a label's own place."""
    return (place, 0, None, None)


def entry_by_hand(web, rows, place, hub):
    if place == hub:
        return own(place)
    ties = joined_by_hand(web)
    ups = [p for p in range(web[0]) if (place, p) in ties and rows[p][hub] == rows[place][hub] - ties[place, p]]
    downs = [p for p in range(web[0]) if (hub, p) in ties and rows[p][place] == rows[place][hub] - ties[hub, p]]
    return (hub, rows[place][hub], ups[0], downs[0])


def full_labels(web):
    """Labels in which each place that can be reached is a hub; as a rule they come by no order."""
    rows = lengths_by_hand(web)
    every = range(web[0])
    return tuple(tuple(entry_by_hand(web, rows, v, h) for h in every if rows[v][h] is not None) for v in every)


def labels_by_hand(web, order):
    """Of each two places the first one on their shortest ways is sought, place by place."""
    rows = lengths_by_hand(web)
    labels = []
    for v in range(web[0]):
        hubs = []
        for h in range(web[0]):
            if rows[v][h] is not None:
                on = [p for p in order if rows[h][p] is not None and rows[h][p] + rows[p][v] == rows[h][v]]
                if on[0] == h:
                    hubs.append(h)
        labels.append(tuple(entry_by_hand(web, rows, v, h) for h in hubs))
    return tuple(labels)


def told_by_hand(one, other):
    return min((a[1] + b[1] for a in one for b in other if a[0] == b[0]), default=None)


def fault_by_hand(web, labels):
    """The first word with a fault and its at, None where there is none; of things that are LABELS."""
    n = web[0]
    ties = joined_by_hand(web)
    longs = [{entry[0]: entry[1] for entry in label} for label in labels]
    far = [(v, *entry) for v in range(n) for entry in labels[v] if entry[1] > 0]
    strange = [v for v in range(n) if longs[v].get(v) != 0]
    up = [(v, h) for v, h, long, up, down in far
          if (v, up) not in ties or h not in longs[up] or longs[up][h] + ties[v, up] != long]
    rows = [[told_by_hand(one, other) for other in labels] for one in labels]
    tie = [(u, v, w) for u in range(n) for v, w in ties
           if rows[v][u] is not None and (rows[w][u] is None or rows[w][u] > rows[v][u] + ties[v, w])]
    down = [(v, h) for v, h, long, up, down in far
            if (h, down) not in ties or rows[down][v] is None or rows[down][v] + ties[h, down] != long]
    for word, found in [("own", strange), ("up", up), ("tie", tie), ("down", down)]:
        if found:
            return (word, min(found))
    return None


def turned_entries(n, entry):
    """The entry, one of a long, turned in one part to what may still stand in a LABEL."""
    hub, long, up, down = entry
    found = [(hub, long + more, up, down) for more in (-2, -1, 1, 2) if long + more > 0]
    found += [(hub, long, p, down) for p in range(n) if p != up]
    found += [(hub, long, up, p) for p in range(n) if p != down]
    return found


def new_entries(n, label):
    """Entries of hubs that the label lacks."""
    hubs = [entry[0] for entry in label]
    lacks = [hub for hub in range(n) if hub not in hubs]
    return list(itertools.product(lacks, (1, 2, 3), range(n), range(n)))


def put_in(labels, place, entries):
    """The labels with another label for the place."""
    return labels[:place] + (tuple(sorted(entries, key=lambda entry: entry[0])),) + labels[place + 1:]


def turned_labels(n, labels):
    """LABELS that differ from these in one entry: gone, turned or new."""
    for v, label in enumerate(labels):
        for k, entry in enumerate(label):
            rest = label[:k] + label[k + 1:]
            if entry[1] > 0:
                yield put_in(labels, v, rest)
                for other in turned_entries(n, entry):
                    yield put_in(labels, v, rest + (other,))
        for entry in new_entries(n, label):
            yield put_in(labels, v, label + (entry,))


def brings_by_hand(web, places, hub):
    """Counted place by place, as the document says, from lengths alone."""
    rows = lengths_by_hand(web)
    found = []
    for v in range(web[0]):
        if v not in places and rows[hub][v] is not None:
            reached = [p for p in places if rows[hub][p] is not None]
            if not any(rows[hub][p] + rows[p][v] == rows[hub][v] for p in reached):
                found.append(v)
    return len(found)


def places_of_set(number):
    """The rising tuple of places whose set has that number."""
    return tuple(place for place in range(number.bit_length()) if number // 2 ** place % 2 == 1)


def least_fault_by_hand(web, order, numbers):
    """The first word with a fault and its at, None where there is none; of an ORDER and a number for each set."""
    if numbers[-1] != 0:
        return ("end", None)
    steps = []
    for number in range(2 ** web[0]):
        taken = places_of_set(number)
        for h in set(range(web[0])) - set(taken):
            if numbers[number] > brings_by_hand(web, taken, h) + numbers[number + 2 ** h]:
                steps.append((number, h))
    if steps:
        return ("step", min(steps))
    if numbers[0] != sum(len(label) for label in labels_by_hand(web, order)):
        return ("start", None)
    return None


def least_numbers_by_hand(web):
    """For each set the fewest entries that the places left can still bring, by trying each row of them."""
    found = []
    for number in range(2 ** web[0]):
        taken = places_of_set(number)
        left = [place for place in range(web[0]) if place not in taken]
        sums = []
        for row in itertools.permutations(left):
            ahead = [tuple(sorted(taken + row[:k])) for k in range(len(row))]
            sums.append(sum(brings_by_hand(web, places, h) for places, h in zip(ahead, row)))
        found.append(min(sums))
    return tuple(found)


def plan_rows(plan, above=()):
    """For each number of a plan, in its order, the number and the own places of all plans round it, one row each."""
    own_places, plans = plan
    found = [(place, above + own_places) for place in own_places]
    for part in plans:
        found += plan_rows(part, above + own_places)
    return found


def plan_fault_by_hand(web, plan):
    """The first word with a fault and its at, None where there is none; of things that are PLANs."""
    order = [place for place, row in plan_rows(plan)]
    for k, place in enumerate(order):
        if place >= web[0] or place in order[:k]:
            return ("place", place)
    lacks = set(range(web[0])) - set(order)
    if lacks:
        return ("lacks", min(lacks))
    chains = dict(plan_rows(plan))
    apart = [(a, b) for a, b, long in web[1] if a not in chains[b] and b not in chains[a]]
    return ("tie", apart[0]) if apart else None


def plan_in_a_row(places):
    """A plan within a plan within a plan, one place each; right for any web with these places."""
    plan = None
    for place in reversed(places):
        plan = ((place,), () if plan is None else (plan,))
    return plan


def parts_by_hand(web, places):
    """Places joined by ways that stay within them, by letting the parts of each tie's ends grow together."""
    parts = [{place} for place in places]
    for a, b, long in web[1]:
        if a in places and b in places:
            one = [part for part in parts if a in part][0]
            other = [part for part in parts if b in part][0]
            if one is not other:
                parts.remove(other)
                one |= other
    return sorted(sorted(part) for part in parts)


def parted_plan(web, order, places=None):
    """A right plan of any web: of each part the place that is the first in the order is taken out, plan by plan."""
    places = range(web[0]) if places is None else places
    first = min(places, key=order.index)
    return ((first,), tuple(parted_plan(web, order, part) for part in parts_by_hand(web, set(places) - {first})))


def tree_plan_by_hand(web, places=None):
    """The plan of a tree by the document's words."""
    places = range(web[0]) if places is None else places
    found = []
    for place in places:
        parts = parts_by_hand(web, set(places) - {place})
        found.append((max((len(part) for part in parts), default=0), place))
    middle = min(found)[1]
    parts = parts_by_hand(web, set(places) - {middle})
    return ((middle,), tuple(tree_plan_by_hand(web, part) for part in parts))


def tree_of_row(n, row):
    """The tree that a row of n - 2 places stands for: the least place not in it hangs on its first, again and again."""
    left = list(range(n))
    row = list(row)
    ties = []
    while len(left) > 2:
        leaf = min(place for place in left if place not in row)
        ties.append((leaf, row.pop(0)))
        left.remove(leaf)
    ties.append(tuple(left))
    return web_of_pairs(n, ties)


def web_of_pairs(n, pairs):
    rising = sorted((min(pair), max(pair)) for pair in pairs)
    return (n, tuple((a, b, 1 + (5 * a + 3 * b) % 99) for a, b in rising))


def all_trees(n):
    """Every tree of n places, by how its places are joined."""
    if n == 1:
        return [(1, ())]
    return [tree_of_row(n, row) for row in itertools.product(range(n), repeat=n - 2)]


def row_tree(n):
    return web_of_pairs(n, [(k, k + 1) for k in range(n - 1)])


def star_tree(n, middle):
    return web_of_pairs(n, [(middle, k) for k in range(n) if k != middle])


def great_trees():
    """Trees of 1 to 24 places: rows, stars, forks, combs and crosswise ones."""
    for n in range(1, 25):
        yield row_tree(n)
        yield star_tree(n, n // 2)
        yield web_of_pairs(n, [(k, (k - 1) // 2) for k in range(1, n)])
        yield web_of_pairs(n, [(k, k - 2 + k % 2) for k in range(1, n)])
        for step in (5, 7, 11):
            if n % step:
                names = [(step * k + 3) % n for k in range(n)]
                yield web_of_pairs(n, [(names[k], names[k * k // step % k]) for k in range(1, n)])
                yield web_of_pairs(n, [(names[k], names[k - 1]) for k in range(1, n)])
                yield web_of_pairs(n, [(names[k], names[max(0, k - 3)]) for k in range(1, n)])


def ring_of(names, longs):
    """A web whose places, seated as the names tell, lie in a ring; each long is that of the tie to the next one."""
    seats = zip(names, names[1:] + names[:1], longs)
    return (len(names), tuple(sorted((min(a, b), max(a, b), long) for a, b, long in seats)))


def ring_labels_by_hand(names, longs):
    """Turned and, where need be, mirrored so that 0 is the first and the second is less than the last."""
    n = len(names)
    start = names.index(0)
    seats = [(start + k) % n for k in range(n)]
    ties = {frozenset((names[k], names[(k + 1) % n])): longs[k] for k in range(n)}
    if names[seats[1]] > names[seats[-1]]:
        seats = seats[:1] + seats[:0:-1]
    row = [names[seat] for seat in seats]
    labels = [None] * n
    for k, place in enumerate(row):
        along = sum(ties[frozenset(row[j:j + 2])] for j in range(k))
        labels[place] = (along, sum(longs), (row + row)[k + 1], (row + row)[k + n - 1])
    return tuple(labels)


def great_rings():
    """Seats and longs of rings of 3 to 24 places: by numbers, falling, crosswise; alike, unlike, one tie overlong."""
    for n in range(3, 25):
        seatings = [tuple(range(n)), tuple(reversed(range(n)))]
        seatings += [tuple((step * k + 2) % n for k in range(n)) for step in (5, 7, 11) if n % step]
        for names in seatings:
            yield names, (1,) * n
            yield names, (99,) * n
            yield names, tuple(1 + (7 * k * k + 3 * n) % 99 for k in range(n))
            yield names, (1,) * (n // 2) + (99,) + (1,) * (n - n // 2 - 1)


def some_posts(n):
    """Posts of n places: each one alone, all of them, and some rows of them."""
    found = [(place,) for place in range(n)] + [tuple(range(n))]
    found += [tuple(range(start, n, step)) for step in (2, 3, 5, 7) for start in (0, 1) if start < n]
    return sorted(set(found))


def near_labels_by_hand(web, posts):
    labels = []
    for v, row in enumerate(lengths_by_hand(web)):
        far = {post: row[post] for post in posts if row[post] is not None}
        least = min(far.values(), default=10 ** 9)
        homes = [(post, least) for post in posts if far.get(post) == least]
        near = [(place, long) for place, long in enumerate(row) if long is not None and long < least]
        labels.append((v, homes[0] if homes else None, tuple(near), tuple(sorted(far.items()))))
    return tuple(labels)


def near_told_by_hand(web, posts, one, other):
    """By lengths and posts, without any label."""
    rows = lengths_by_hand(web)
    homes = []
    for place in (one, other):
        homes.append(min(((rows[place][post], post) for post in posts if rows[place][post] is not None), default=None))
    if rows[one][other] is None:
        return None
    if any(home is None or rows[one][other] < home[0] for home in homes):
        return rows[one][other]
    return min(homes[0][0] + rows[other][homes[0][1]], homes[1][0] + rows[one][homes[1][1]])


def all_places(n):
    """Every rising tuple of one or more of n places."""
    for count in range(1, n + 1):
        yield from itertools.combinations(range(n), count)


def is_part_by_hand(web, places):
    """Whether no place that lacks stands on a shortest way between two of these, by lengths alone."""
    rows = lengths_by_hand(web)
    lacking = [p for p in range(web[0]) if p not in places]
    for one, other in itertools.combinations(places, 2):
        for p in lacking:
            if None not in (rows[one][p], rows[p][other]) and rows[one][p] + rows[p][other] == rows[one][other]:
                return False
    return True


def part_round(web, places):
    """The least part that holds these places."""
    rows = lengths_by_hand(web)
    found = set(places)
    while not is_part_by_hand(web, sorted(found)):
        for one, other in itertools.combinations(sorted(found), 2):
            if rows[one][other] is not None:
                reached = [p for p in range(web[0]) if rows[one][p] is not None]
                found |= {p for p in reached if rows[one][p] + rows[p][other] == rows[one][other]}
    return tuple(sorted(found))


@functools.lru_cache(maxsize=None)
def great_parts(web):
    """Parts of a great web: round each place, round some twos and threes, and all of it."""
    found = {(place,) for place in range(web[0])} | {tuple(range(web[0]))}
    for k in range(web[0]):
        found.add(part_round(web, (k, (k + 7) % web[0])))
        found.add(part_round(web, (k, (5 * k + 1) % web[0], (11 * k + 4) % web[0])))
    return sorted(found)


def part_web_by_hand(web, places):
    ties = joined_by_hand(web)
    pairs = itertools.combinations(range(len(places)), 2)
    return (len(places), tuple((a, b, ties[places[a], places[b]]) for a, b in pairs if (places[a], places[b]) in ties))


def part_order_by_hand(order, places):
    return tuple(sorted(range(len(places)), key=lambda k: order.index(places[k])))


def cut_by_hand(labels, places):
    """The labels cut down, each number by how many of the places are below it."""
    def new(place):
        return None if place is None else len([p for p in places if p < place])

    found = []
    for place in places:
        kept = [entry for entry in labels[place] if entry[0] in places]
        found.append(tuple((new(hub), long, new(up), new(down)) for hub, long, up, down in kept))
    return tuple(found)


def step_by_hand(labels, one, other):
    """The next step that two labels tell, by the document's words."""
    here = {entry[0]: entry for entry in labels[one]}
    there = {entry[0]: entry for entry in labels[other]}
    sums = sorted((here[hub][1] + there[hub][1], hub) for hub in here if hub in there)
    if one == other or not sums:
        return None
    hub = sums[0][1]
    return there[hub][3] if hub == one else here[hub][2]


def walk_by_hand(labels, one, other):
    if told_by_hand(labels[one], labels[other]) is None:
        return []
    gone = [one]
    while gone[-1] != other:
        gone.append(step_by_hand(labels, gone[-1], other))
    return gone
