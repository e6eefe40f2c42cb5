import copy
import itertools
import unittest

from by_hand import (
    NO_ORDERS, all_orders, full_labels, great_orders, great_webs, labels_by_hand, lengths_by_hand, nested, own,
    shortest_ways, small_webs, with_kinds,
)
from labelways.errors import NoOrder, WayError
from labelways.labels import are_labels, told
from labelways.orders import by_order, is_order, longest, total

ROW = (3, ((0, 1, 2), (1, 2, 3)))
# 0 to 3 has two ways of 5, by 1 and by 2; 4 hangs on 3; 5 and 6 lie apart.
WEB = (7, ((0, 1, 2), (0, 2, 1), (0, 3, 6), (1, 3, 3), (2, 3, 4), (3, 4, 10), (5, 6, 8)))


class IsOrder(unittest.TestCase):
    def test_each_order(self):
        for n in range(1, 6):
            for order in all_orders(n):
                self.assertIs(is_order((n, ()), order), True)

    def test_whatever_its_ties(self):
        for web in (ROW, (3, ())):
            self.assertIs(is_order(web, (2, 0, 1)), True)
        for order in great_orders():
            for web in great_webs():
                self.assertIs(is_order(web, order), True)

    def test_no_orders(self):
        for thing in NO_ORDERS:
            self.assertIs(is_order(ROW, thing), False, repr(thing)[:200])

    def test_one_place(self):
        self.assertIs(is_order((1, ()), (0,)), True)
        for thing in [(), (1,), (0, 0), (False,), [0], 0, (None,), ((0,),), (-1,)]:
            self.assertIs(is_order((1, ()), thing), False, thing)

    def test_everything_short(self):
        for count in range(5):
            for thing in itertools.product((-1, 0, 1, 2, 3), repeat=count):
                self.assertIs(is_order(ROW, thing), sorted(thing) == [0, 1, 2], thing)

    def test_deep_and_long_things(self):
        for kind in (tuple, list):
            for thing in (nested(kind, 60), (0, 1, nested(kind, 59)), kind([0]) * 100000, kind(range(100000))):
                self.assertIs(is_order(ROW, thing), False)
        self.assertIs(is_order((24, ()), tuple(range(24)) * 5000), False)

    def test_great_orders_with_one_place_wrong(self):
        web = (24, ())
        for order in great_orders():
            for k in range(24):
                for wrong in (order[k - 1], 24, -1, True, None, "7", (order[k],), [order[k]]):
                    self.assertIs(is_order(web, order[:k] + (wrong,) + order[k + 1:]), False)
            self.assertIs(is_order(web, order[:-1]), False)
            self.assertIs(is_order(web, order + (0,)), False)
            self.assertIs(is_order(web, list(order)), False)


class ByOrder(unittest.TestCase):
    def check(self, web, order, asked):
        labels = by_order(web, order)
        self.assertEqual(with_kinds(labels), with_kinds(asked), (web, order))

    def test_row(self):
        self.check(ROW, (1, 0, 2), (
            (own(0), (1, 2, 1, 0)),
            (own(1),),
            ((1, 3, 1, 2), own(2)),
        ))
        self.check(ROW, (0, 1, 2), (
            (own(0),),
            ((0, 2, 0, 1), own(1)),
            ((0, 5, 1, 1), (1, 3, 1, 2), own(2)),
        ))
        self.check(ROW, (2, 1, 0), (
            (own(0), (1, 2, 1, 0), (2, 5, 1, 1)),
            (own(1), (2, 3, 2, 1)),
            (own(2),),
        ))
        self.check(ROW, (0, 2, 1), (
            (own(0),),
            ((0, 2, 0, 1), own(1), (2, 3, 2, 1)),
            ((0, 5, 1, 1), own(2)),
        ))

    def test_one_place_and_no_tie(self):
        self.check((1, ()), (0,), ((own(0),),))
        for order in all_orders(3):
            self.check((3, ()), order, ((own(0),), (own(1),), (own(2),)))

    def test_several_shortest_ways(self):
        # All ways between 0 and 3 are 2 long; the least next places are taken on either side.
        web = (5, ((0, 1, 1), (0, 2, 1), (0, 4, 1), (1, 3, 1), (2, 3, 1), (3, 4, 1)))
        self.check(web, (3, 0, 4, 2, 1), (
            (own(0), (3, 2, 1, 1)),
            ((0, 1, 0, 1), own(1), (3, 1, 3, 1)),
            ((0, 1, 0, 2), own(2), (3, 1, 3, 2)),
            (own(3),),
            ((0, 1, 0, 4), (3, 1, 3, 4), own(4)),
        ))
        # A place ahead on one of the shortest ways is enough, though 3 is ahead on another.
        self.assertEqual([entry[0] for entry in by_order(web, (2, 3, 0, 1, 4))[0]], [0, 2])

    def test_up_and_down_on_unlike_ways(self):
        # From 0 to 5: 0 1 4 5 and 0 2 3 5, each 3 long; by their least places up and down lie on two ways.
        web = (6, ((0, 1, 1), (0, 2, 1), (1, 4, 1), (2, 3, 1), (3, 5, 1), (4, 5, 1)))
        self.assertEqual(by_order(web, (5, 0, 1, 2, 3, 4))[0][-1], (5, 3, 1, 3))

    def test_tie_that_is_longer_than_a_way(self):
        web = (3, ((0, 1, 1), (0, 2, 9), (1, 2, 1)))
        self.check(web, (0, 2, 1), (
            (own(0),),
            ((0, 1, 0, 1), own(1), (2, 1, 2, 1)),
            ((0, 2, 1, 1), own(2)),
        ))

    def test_web_that_is_not_whole(self):
        self.check(WEB, (3, 6, 0, 5, 1, 2, 4), (
            (own(0), (3, 5, 1, 1)),
            ((0, 2, 0, 1), own(1), (3, 3, 3, 1)),
            ((0, 1, 0, 2), own(2), (3, 4, 3, 2)),
            (own(3),),
            ((3, 10, 3, 4), own(4)),
            (own(5), (6, 8, 6, 5)),
            (own(6),),
        ))

    def test_hubs_as_the_document_says_of_every_small_web(self):
        """Hubs, longs, ups and downs told from all ways of a web."""
        for web, order in zip(small_webs(), itertools.cycle(all_orders(4))):
            ways = {(a, b): shortest_ways(web, a, b) for a in range(4) for b in range(4)}
            asked = []
            for v in range(4):
                entries = []
                for h in range(4):
                    found, length = ways[h, v]
                    between = {place for way in found for place in way}
                    if found and not between & set(order[:order.index(h)]):
                        up = min((way[1] for way in ways[v, h][0] if v != h), default=None)
                        down = min((way[1] for way in found if v != h), default=None)
                        entries.append((h, length, up, down))
                asked.append(tuple(entries))
            self.assertEqual(by_order(web, order), tuple(asked), (web, order))

    def test_each_order_of_some_webs(self):
        ring = (5, ((0, 1, 1), (0, 4, 2), (1, 2, 1), (2, 3, 2), (3, 4, 2)))
        for web in (ring, (5, WEB[1][:6]), (5, ((0, 4, 3), (1, 3, 2)))):
            for order in all_orders(5):
                self.check(web, order, labels_by_hand(web, order))

    def test_great_webs(self):
        for web in great_webs():
            for order in great_orders():
                self.check(web, order, labels_by_hand(web, order))

    def test_kinds(self):
        for web in great_webs():
            for order in great_orders():
                self.assertIs(are_labels(24, by_order(web, order)), True)

    def test_each_place_is_a_hub_of_its_own_label(self):
        for web in great_webs():
            for order in great_orders():
                for place, label in enumerate(by_order(web, order)):
                    self.assertIn(own(place), label)

    def test_first_place_between_two_is_a_hub_of_both(self):
        for web, order in zip(great_webs(), itertools.cycle(great_orders())):
            rows = lengths_by_hand(web)
            hubs = [[entry[0] for entry in label] for label in by_order(web, order)]
            for a, b in itertools.combinations(range(24), 2):
                if rows[a][b] is not None:
                    reached = [p for p in order if rows[a][p] is not None]
                    first = [p for p in reached if rows[a][p] + rows[p][b] == rows[a][b]][0]
                    self.assertIn(first, hubs[a])
                    self.assertIn(first, hubs[b])

    def test_told_lengths_are_those_of_the_web(self):
        for web in great_webs():
            rows = lengths_by_hand(web)
            for order in great_orders():
                labels = by_order(web, order)
                self.assertEqual(tuple(tuple(told(a, b) for b in labels) for a in labels), rows)

    def test_without_any_entry_some_length_is_told_otherwise(self):
        for web, order in zip(itertools.islice(small_webs(), 0, None, 7), itertools.cycle(all_orders(4))):
            labels = by_order(web, order)
            rows = lengths_by_hand(web)
            for v, label in enumerate(labels):
                for k in range(len(label)):
                    row = [told(label[:k] + label[k + 1:], other) for other in labels]
                    self.assertNotEqual(tuple(row), rows[v], (web, order, v, label[k]))

    def test_somewhat_beyond_the_bounds(self):
        web = (26, tuple((k, k + 1, 150) for k in range(25)))
        labels = by_order(web, tuple(range(26)))
        self.assertEqual(labels[25][0], (0, 25 * 150, 24, 1))
        self.assertEqual(total(labels), 26 * 27 // 2)


class Refused(unittest.TestCase):
    def test_no_order(self):
        for thing in NO_ORDERS:
            with self.assertRaises(NoOrder) as caught:
                by_order(ROW, thing)
            self.assertIs(type(caught.exception), NoOrder, repr(thing)[:200])
            self.assertIsInstance(caught.exception, WayError)

    def test_deep_and_long_things(self):
        for kind in (tuple, list):
            for thing in (nested(kind, 60), (0, 1, nested(kind, 59)), kind([0]) * 100000):
                with self.assertRaises(NoOrder):
                    by_order(ROW, thing)

    def test_order_of_another_web(self):
        for order in great_orders():
            for web in [(23, ()), (1, ()), ROW]:
                with self.assertRaises(NoOrder):
                    by_order(web, order)
        with self.assertRaises(NoOrder):
            by_order((24, ()), tuple(range(23)))

    def test_stays_as_it_was(self):
        for thing in ([0, 1, 2], [[0, 1, 2]], (0, [1], 2), [2, True, None, "b"]):
            ahead = copy.deepcopy(thing)
            is_order(ROW, thing)
            with self.assertRaises(NoOrder):
                by_order(ROW, thing)
            self.assertEqual(with_kinds(thing), with_kinds(ahead))


class Counts(unittest.TestCase):
    def check(self, labels, asked):
        self.assertEqual(with_kinds((total(labels), longest(labels))), with_kinds(asked), labels)

    def test_by_orders(self):
        self.check(by_order(ROW, (1, 0, 2)), (5, 2))
        self.check(by_order(ROW, (0, 1, 2)), (6, 3))
        self.check(by_order(WEB, (3, 6, 0, 5, 1, 2, 4)), (14, 3))

    def test_own_entries_alone(self):
        for n in range(1, 25):
            self.check(tuple((own(k),) for k in range(n)), (n, 1))

    def test_wherever_the_longest_stands(self):
        for place in range(3):
            labels = [((0, 0, None, None),)] * 3
            labels[place] = (own(0), (1, 1, 1, 1), (2, 1, 1, 1))
            self.check(tuple(labels), (5, 3))

    def test_several_as_long(self):
        self.check(full_labels(ROW), (9, 3))
        row = (24, tuple((k, k + 1, 1) for k in range(23)))
        self.check(full_labels(row), (576, 24))


class AskersOwn(unittest.TestCase):
    def test_nothing_is_changed_and_nothing_hangs_on_what_was_asked(self):
        order = (3, 6, 0, 5, 1, 2, 4)
        ahead = copy.deepcopy((WEB, order))
        first = by_order(WEB, order)
        kept = copy.deepcopy(first)
        by_order(WEB, tuple(range(7)))
        by_order(ROW, (1, 0, 2))
        self.assertEqual(with_kinds(first), with_kinds(kept))
        self.assertEqual(with_kinds(by_order(WEB, order)), with_kinds(kept))
        self.assertEqual(with_kinds((WEB, order)), with_kinds(ahead))


if __name__ == "__main__":
    unittest.main()
