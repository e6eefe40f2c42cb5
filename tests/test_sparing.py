import copy
import itertools
import unittest

from by_hand import (
    all_orders, fault_by_hand, full_labels, great_orders, great_webs, labels_by_hand, own, put_in, small_webs,
    told_by_hand, turned_labels, with_kinds,
)
from labelways.checker import lets_labels
from labelways.orders import by_order
from labelways.sparing import can_go

PAIR = (2, ((0, 1, 5),))
ROW = (3, ((0, 1, 2), (1, 2, 3)))
BENT = (3, ((0, 1, 1), (0, 2, 9), (1, 2, 1)))
RING = (4, ((0, 1, 1), (0, 3, 1), (1, 2, 1), (2, 3, 1)))
PARTED = (5, ((0, 2, 1), (1, 3, 2), (1, 4, 2), (3, 4, 3)))


def spare_by_hand(labels):
    def rows(asked):
        return [[told_by_hand(one, other) for other in asked] for one in asked]

    found = []
    for v, label in enumerate(labels):
        for entry in label:
            rest = [other for other in label if other != entry]
            if entry[1] > 0 and rows(put_in(labels, v, rest)) == rows(labels):
                found.append((v, entry[0]))
    return sorted(found)


class CanGo(unittest.TestCase):
    def check(self, web, labels, asked):
        self.assertIs(lets_labels(web, labels), True)
        self.assertEqual(with_kinds(can_go(labels)), with_kinds(asked), labels)

    def test_each_by_itself(self):
        # Either of the two can go, but not both.
        self.check(PAIR, ((own(0), (1, 5, 1, 0)), ((0, 5, 0, 1), own(1))), [(0, 1), (1, 0)])

    def test_some_can_some_can_not(self):
        # 0 and 2 are told by 0, by 1 and by 2; 1 and the others by two hubs each.
        self.check(ROW, full_labels(ROW), [(0, 1), (0, 2), (1, 0), (1, 2), (2, 0), (2, 1)])
        labels = (
            (own(0), (1, 2, 1, 0), (2, 5, 1, 1)),
            (own(1), (2, 3, 2, 1)),
            ((1, 3, 1, 2), own(2)),
        )
        # Without hub 1 the label of 0 tells nothing with that of 1 but by 2, which is too long.
        self.check(ROW, labels, [(0, 2), (1, 2), (2, 1)])

    def test_long_that_is_greater_than_the_length(self):
        labels = ((own(0), (1, 1, 1, 0), (2, 9, 2, 0)), (own(1),), ((1, 1, 1, 2), own(2)))
        self.check(BENT, labels, [(0, 2)])

    def test_without_it_more_is_told(self):
        # Without hub 1 the labels of 0 and 2 still tell a length, but 9.
        labels = ((own(0), (1, 1, 1, 0), (2, 9, 2, 0)), ((0, 1, 0, 1), own(1)), ((1, 1, 1, 2), own(2)))
        self.check(BENT, labels, [(0, 2), (1, 0)])

    def test_own_entries_are_not_asked_of(self):
        for n in range(1, 25):
            self.check((n, ()), tuple((own(k),) for k in range(n)), [])

    def test_ring(self):
        self.check(RING, full_labels(RING), [(v, h) for v in range(4) for h in range(4) if v != h])
        labels = (
            (own(0),),
            ((0, 1, 0, 1), own(1), (2, 1, 2, 1), (3, 2, 2, 2)),
            ((0, 2, 3, 3), own(2), (3, 1, 3, 2)),
            ((0, 1, 0, 3), own(3)),
        )
        self.check(RING, labels, [(1, 3)])

    def test_web_that_is_not_whole(self):
        asked = [(0, 2), (1, 3), (1, 4), (2, 0), (3, 1), (3, 4), (4, 1), (4, 3)]
        self.check(PARTED, full_labels(PARTED), asked)

    def test_none_of_labels_by_an_order(self):
        for web in (PAIR, ROW, BENT, RING, PARTED):
            for order in all_orders(web[0]):
                self.check(web, by_order(web, order), [])
        for web, order in zip(small_webs(), itertools.cycle(all_orders(4))):
            self.assertEqual(can_go(by_order(web, order)), [], (web, order))

    def test_none_of_labels_by_orders_of_great_webs(self):
        for web in great_webs():
            for order in great_orders():
                self.check(web, by_order(web, order), [])

    def test_labels_by_an_order_with_one_entry_turned(self):
        found = 0
        for web in (ROW, BENT, RING, (3, ((0, 1, 1), (0, 2, 2), (1, 2, 1)))):
            for order in all_orders(web[0])[::2]:
                for labels in turned_labels(web[0], labels_by_hand(web, order)):
                    if fault_by_hand(web, labels) is None:
                        self.check(web, labels, spare_by_hand(labels))
                        found += len(can_go(labels))
        self.assertGreater(found, 50)

    def test_great_full_labels(self):
        # Between 0 and 23 all places stand, so each hub is told otherwise as well.
        row = (24, tuple((k, k + 1, 1) for k in range(23)))
        self.check(row, full_labels(row), [(v, h) for v in range(24) for h in range(24) if v != h])

    def test_labels_with_entries_of_two_orders(self):
        for web, order in zip(great_webs(), great_orders()):
            one = by_order(web, order)
            other = by_order(web, order[::-1])
            labels = tuple(tuple(sorted(set(a) | set(b), key=lambda entry: entry[0])) for a, b in zip(one, other))
            kept = [set(entry[0] for entry in label) for label in one]
            found = can_go(labels)
            self.assertIs(lets_labels(web, labels), True)
            self.assertEqual(found, sorted(set(found)))
            # What the first order alone does not need can go.
            extra = [(v, entry[0]) for v in range(24) for entry in labels[v] if entry[0] not in kept[v]]
            self.assertLessEqual(set(extra), set(found))
            for v, hub in found[::9]:
                rest = tuple(entry for entry in labels[v] if entry[0] != hub)
                for w in range(24):
                    self.assertEqual(told_by_hand(rest, labels[w]), told_by_hand(labels[v], labels[w]))


class AskersOwn(unittest.TestCase):
    def test_list_of_its_own(self):
        labels = full_labels(RING)
        ahead = copy.deepcopy(labels)
        first = can_go(labels)
        kept = list(first)
        self.assertIs(type(first), list)
        can_go(full_labels(ROW))
        self.assertEqual(first, kept)
        first.clear()
        self.assertEqual(can_go(labels), kept)
        self.assertEqual(with_kinds(labels), with_kinds(ahead))

    def test_void_list_of_its_own(self):
        labels = by_order(ROW, (1, 0, 2))
        first = can_go(labels)
        first.append((0, 1))
        self.assertEqual(can_go(labels), [])


if __name__ == "__main__":
    unittest.main()
