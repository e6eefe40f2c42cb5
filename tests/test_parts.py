import copy
import itertools
import unittest

from by_hand import (
    NO_PLACES, all_orders, all_places, cut_by_hand, great_orders, great_parts, great_webs, is_part_by_hand,
    labels_by_hand, lengths_by_hand, nested, own, part_order_by_hand, part_web_by_hand, shortest_ways, small_webs,
    walk_by_hand, with_kinds,
)
from checked import Refusing
from labelways.checker import lets_labels
from labelways.errors import NoPart
from labelways.labels import are_labels, told, walk
from labelways.orders import by_order, is_order
from labelways.parts import cut_down, is_part, part_order, part_web
from labelways.webs import is_web

ROW = (3, ((0, 1, 2), (1, 2, 3)))
RING = (4, ((0, 1, 1), (0, 3, 1), (1, 2, 1), (2, 3, 1)))
# 0 to 3 has two ways of 5, by 1 and by 2; 4 hangs on 3; 5 and 6 lie apart.
WEB = (7, ((0, 1, 2), (0, 2, 1), (0, 3, 6), (1, 3, 3), (2, 3, 4), (3, 4, 10), (5, 6, 8)))
ORDER = (3, 6, 0, 5, 1, 2, 4)
PARTS_OF_WEB = [
    (0, 1), (0, 2), (1, 3), (2, 3), (0, 1, 2), (0, 1, 2, 3), (3, 4), (1, 3, 4), (2, 3, 4), (0, 1, 2, 3, 4), (5, 6),
    (0, 5), (4, 6), (0, 1, 6), (3, 4, 5, 6), (0, 1, 2, 5, 6), (0, 1, 2, 3, 4, 5), (0, 1, 2, 3, 4, 5, 6),
]
# Of each a place lacks that is on a shortest way between two of them.
NO_PARTS_OF_WEB = [
    (0, 3), (0, 1, 3), (0, 2, 3), (1, 2), (1, 2, 3), (0, 4), (1, 4), (2, 4), (0, 3, 4), (0, 1, 3, 4), (1, 2, 3, 4),
    (0, 1, 2, 4), (0, 3, 5), (1, 2, 5, 6), (0, 1, 2, 4, 5, 6), (0, 1, 3, 4, 5, 6),
]


def some_parts_of_great_webs():
    for web, order in zip(great_webs(), itertools.cycle(great_orders())):
        for places in great_parts(web)[::2]:
            yield web, order, places


class IsPart(unittest.TestCase):
    def assertPart(self, web, thing):
        self.assertIs(is_part(web, thing), True, (web, repr(thing)[:200]))

    def assertNoPart(self, web, thing):
        self.assertIs(is_part(web, thing), False, (web, repr(thing)[:200]))

    def test_one_place_and_all_places(self):
        for web in [(1, ()), ROW, RING, WEB] + list(great_webs()):
            self.assertPart(web, tuple(range(web[0])))
            for place in range(web[0]):
                self.assertPart(web, (place,))

    def test_parts(self):
        for thing in PARTS_OF_WEB:
            self.assertPart(WEB, thing)

    def test_place_between_is_lacking(self):
        self.assertNoPart(ROW, (0, 2))
        for thing in NO_PARTS_OF_WEB:
            self.assertNoPart(WEB, thing)

    def test_places_without_a_way_between_them(self):
        self.assertPart((3, ()), (0, 2))
        self.assertPart((4, ((0, 1, 1), (2, 3, 1))), (0, 3))
        self.assertPart((4, ((0, 1, 1), (2, 3, 1))), (1, 2))

    def test_places_of_several_shortest_ways(self):
        # Of the two ways between 0 and 2 neither alone is enough.
        for thing in ((0, 2), (1, 3), (0, 1, 2), (0, 2, 3), (0, 1, 3), (1, 2, 3)):
            self.assertNoPart(RING, thing)
        for thing in ((0, 1), (0, 3), (1, 2), (2, 3), (0, 1, 2, 3)):
            self.assertPart(RING, thing)

    def test_shortest_way_may_have_more_ties(self):
        bent = (3, ((0, 1, 1), (0, 2, 3), (1, 2, 1)))
        self.assertNoPart(bent, (0, 2))
        # A way as long as the tie has its places between as well; a longer one has not.
        self.assertNoPart((3, ((0, 1, 1), (0, 2, 2), (1, 2, 1))), (0, 2))
        self.assertPart((3, ((0, 1, 1), (0, 2, 1), (1, 2, 1))), (0, 2))

    def test_each_way_told_by_hand(self):
        for web in (WEB, RING, ROW):
            for places in all_places(web[0]):
                pairs = itertools.combinations(places, 2)
                ways = [way for one, other in pairs for way in shortest_ways(web, one, other)[0]]
                asked = all(place in places for way in ways for place in way)
                self.assertIs(is_part(web, places), asked, (web, places))

    def test_each_small_web(self):
        for web in itertools.islice(small_webs(), 0, None, 3):
            for places in all_places(4):
                self.assertIs(is_part(web, places), is_part_by_hand(web, places), (web, places))

    def test_great_webs(self):
        for web in great_webs():
            for places in great_parts(web):
                self.assertPart(web, places)
            for one, other in itertools.combinations(range(0, 24, 3), 2):
                self.assertIs(is_part(web, (one, other)), is_part_by_hand(web, (one, other)))

    def test_parts_without_one_place(self):
        for web in great_webs():
            for places in great_parts(web)[::5]:
                for k in range(len(places)):
                    less = places[:k] + places[k + 1:]
                    asked = less != () and is_part_by_hand(web, less)
                    self.assertIs(is_part(web, less), asked, (web, less))

    def test_no_places(self):
        for thing in NO_PLACES:
            self.assertNoPart(ROW, thing)
            self.assertNoPart((3, ()), thing)

    def test_everything_short(self):
        for count in range(5):
            for thing in itertools.product((-1, 0, 1, 2, 3), repeat=count):
                rises = thing != () and sorted(set(thing) & {0, 1, 2}) == list(thing)
                self.assertIs(is_part(ROW, thing), rises and thing != (0, 2), thing)

    def test_parts_with_one_thing_wrong(self):
        for places in PARTS_OF_WEB:
            for k in range(len(places)):
                for wrong in (7, -1, True, False, None, "3", (places[k],), [places[k]], str(places[k])):
                    self.assertNoPart(WEB, places[:k] + (wrong,) + places[k + 1:])
            self.assertNoPart(WEB, list(places))
            self.assertNoPart(WEB, (places,))
            self.assertNoPart(WEB, places[::-1])
            self.assertNoPart(WEB, places + places[-1:])
            self.assertNoPart(WEB, places[:1] + places)
            self.assertNoPart(WEB, places + (7,))

    def test_deep_and_long_things(self):
        for web in (ROW, (24, ())):
            for kind in (tuple, list):
                for thing in (nested(kind, 60), (0, nested(kind, 59)), kind([0]) * 100000, kind(range(100000))):
                    self.assertNoPart(web, thing)
        self.assertNoPart((24, ()), tuple(range(24)) * 5000)

    def test_somewhat_beyond_the_bounds(self):
        web = (30, tuple((k, k + 1, 150) for k in range(29)))
        self.assertPart(web, tuple(range(5, 30)))
        self.assertNoPart(web, tuple(range(5, 28)) + (29,))
        self.assertNoPart(web, tuple(range(5, 31)))


class PartWeb(Refusing):
    def check(self, web, places, asked):
        self.assertEqual(with_kinds(part_web(web, places)), with_kinds(asked), (web, places))

    def assertNoPart(self, web, thing):
        self.assertRefused(NoPart, part_web, web, thing)

    def test_some_parts(self):
        self.check(ROW, (1, 2), (2, ((0, 1, 3),)))
        self.check(WEB, (0, 1, 2), (3, ((0, 1, 2), (0, 2, 1))))
        self.check(WEB, (1, 3, 4), (3, ((0, 1, 3), (1, 2, 10))))
        self.check(WEB, (2, 3, 4), (3, ((0, 1, 4), (1, 2, 10))))
        self.check(WEB, (3, 4, 5, 6), (4, ((0, 1, 10), (2, 3, 8))))
        self.check(WEB, (0, 1, 2, 5, 6), (5, ((0, 1, 2), (0, 2, 1), (3, 4, 8))))
        self.check(WEB, (0, 5), (2, ()))

    def test_tie_that_is_longer_than_a_way_stays(self):
        self.check(WEB, (0, 1, 2, 3), (4, ((0, 1, 2), (0, 2, 1), (0, 3, 6), (1, 3, 3), (2, 3, 4))))

    def test_one_place(self):
        for web in (ROW, WEB, (1, ())):
            for place in range(web[0]):
                self.check(web, (place,), (1, ()))

    def test_all_places(self):
        for web in [ROW, RING, WEB, (1, ())] + list(great_webs()):
            self.check(web, tuple(range(web[0])), web)

    def test_each_part_of_small_webs(self):
        for web in itertools.islice(small_webs(), 0, None, 5):
            for places in all_places(4):
                if is_part_by_hand(web, places):
                    self.check(web, places, part_web_by_hand(web, places))
                else:
                    self.assertNoPart(web, places)

    def test_great_webs(self):
        for web, order, places in some_parts_of_great_webs():
            self.check(web, places, part_web_by_hand(web, places))
            self.assertIs(is_web(part_web(web, places)), True)

    def test_lengths_and_ways_are_those_of_the_whole(self):
        for places in PARTS_OF_WEB:
            rows = lengths_by_hand(WEB)
            asked = tuple(tuple(rows[one][other] for other in places) for one in places)
            self.assertEqual(lengths_by_hand(part_web(WEB, places)), asked)

    def test_place_between_is_lacking(self):
        self.assertNoPart(ROW, (0, 2))
        for thing in NO_PARTS_OF_WEB:
            self.assertNoPart(WEB, thing)

    def test_no_places(self):
        for thing in NO_PLACES:
            self.assertNoPart(ROW, thing)

    def test_deep_and_long_things(self):
        for kind in (tuple, list):
            for thing in (nested(kind, 60), (0, nested(kind, 59)), kind([0]) * 100000, kind(range(100000))):
                self.assertNoPart(WEB, thing)

    def test_stays_as_it_was(self):
        for thing in ([0, 1], [[0]], (0, [1], 2), [True, None, "b"], [2, 1, 0]):
            ahead = copy.deepcopy(thing)
            self.assertNoPart(ROW, thing)
            self.assertIs(is_part(ROW, thing), False)
            self.assertEqual(with_kinds(thing), with_kinds(ahead))


class PartOrder(unittest.TestCase):
    def check(self, order, places, asked):
        self.assertEqual(with_kinds(part_order(order, places)), with_kinds(asked), (order, places))

    def test_some_orders(self):
        self.check(ORDER, (0, 1, 2, 3), (3, 0, 1, 2))
        self.check(ORDER, (1, 3, 4), (1, 0, 2))
        self.check(ORDER, (3, 4, 5, 6), (0, 3, 2, 1))
        self.check(ORDER, (0, 1, 2, 5, 6), (4, 0, 3, 1, 2))
        self.check((2, 1, 0), (0, 1), (1, 0))
        self.check((2, 0, 1), (1, 2), (1, 0))

    def test_one_place_and_all_places(self):
        for order in list(all_orders(4)) + [ORDER]:
            self.check(order, tuple(range(len(order))), order)
            for place in order:
                self.check(order, (place,), (0,))

    def test_each_order_and_part(self):
        for order in all_orders(4):
            for places in all_places(4):
                self.check(order, places, part_order_by_hand(order, places))

    def test_great_orders(self):
        for web, order, places in some_parts_of_great_webs():
            self.check(order, places, part_order_by_hand(order, places))
            self.assertIs(is_order(part_web(web, places), part_order(order, places)), True)


class CutDown(unittest.TestCase):
    def check(self, labels, places, asked):
        self.assertEqual(with_kinds(cut_down(labels, places)), with_kinds(asked), (labels, places))

    def check_part(self, web, order, places):
        """The labels of the whole cut down are those of the part's web by its order."""
        labels = by_order(web, order)
        found = cut_down(labels, places)
        self.assertEqual(with_kinds(found), with_kinds(cut_by_hand(labels_by_hand(web, order), places)))
        own_web = part_web(web, places)
        asked = by_order(own_web, part_order(order, places))
        self.assertEqual(with_kinds(found), with_kinds(asked), (web, order, places))
        self.assertEqual(with_kinds(found), with_kinds(labels_by_hand(own_web, part_order_by_hand(order, places))))
        self.assertIs(are_labels(len(places), found), True)
        self.assertIs(lets_labels(own_web, found), True)

    def test_row(self):
        labels = (
            (own(0), (1, 2, 1, 0), (2, 5, 1, 1)),
            (own(1), (2, 3, 2, 1)),
            (own(2),),
        )
        self.assertEqual(by_order(ROW, (2, 1, 0)), labels)
        self.check(labels, (0, 1), ((own(0), (1, 2, 1, 0)), (own(1),)))
        self.check(labels, (1, 2), ((own(0), (1, 3, 1, 0)), (own(1),)))
        self.check(labels, (0, 1, 2), labels)
        for place in range(3):
            self.check(labels, (place,), ((own(0),),))

    def test_web_that_is_not_whole(self):
        labels = by_order(WEB, ORDER)
        self.assertEqual(labels[4], ((3, 10, 3, 4), own(4)))
        self.check(labels, (0, 1, 2, 3), (
            (own(0), (3, 5, 1, 1)),
            ((0, 2, 0, 1), own(1), (3, 3, 3, 1)),
            ((0, 1, 0, 2), own(2), (3, 4, 3, 2)),
            (own(3),),
        ))
        self.check(labels, (1, 3, 4), ((own(0), (1, 3, 1, 0)), (own(1),), ((1, 10, 1, 2), own(2))))
        self.check(labels, (3, 4, 5, 6), (
            (own(0),), ((0, 10, 0, 1), own(1)), (own(2), (3, 8, 3, 2)), (own(3),),
        ))
        self.check(labels, (0, 6), ((own(0),), (own(1),)))

    def test_up_and_down_get_the_numbers_of_their_own(self):
        # Hub, up and down are three places, and each gets another number.
        web = (6, ((1, 2, 1), (2, 4, 1), (4, 5, 1)))
        labels = by_order(web, (5, 0, 1, 2, 3, 4))
        self.assertEqual(labels[1], (own(1), (5, 3, 2, 4)))
        self.assertEqual(cut_down(labels, (1, 2, 4, 5))[0], (own(0), (3, 3, 1, 2)))
        self.assertEqual(cut_down(labels, (0, 1, 2, 4, 5))[1], (own(1), (4, 3, 2, 3)))

    def test_each_part_and_order_of_some_webs(self):
        for web in (RING, (4, ((0, 1, 2), (0, 2, 1), (1, 3, 3), (2, 3, 4))), (4, ((0, 2, 1), (1, 3, 5)))):
            for places in all_places(4):
                if is_part_by_hand(web, places):
                    for order in all_orders(4):
                        self.check_part(web, order, places)

    def test_each_part_of_small_webs(self):
        for web, order in zip(itertools.islice(small_webs(), 0, None, 7), itertools.cycle(all_orders(4))):
            for places in all_places(4):
                if is_part_by_hand(web, places):
                    self.check_part(web, order, places)

    def test_each_part_of_a_web(self):
        for places in all_places(7):
            if is_part_by_hand(WEB, places):
                self.check_part(WEB, ORDER, places)
                self.check_part(WEB, ORDER[::-1], places)

    def test_great_webs(self):
        for web, order, places in some_parts_of_great_webs():
            self.check_part(web, order, places)

    def test_lengths_told_are_those_of_the_whole(self):
        for places in PARTS_OF_WEB:
            rows = lengths_by_hand(WEB)
            labels = by_order(WEB, ORDER)
            cut = cut_down(labels, places)
            for k, j in itertools.product(range(len(places)), repeat=2):
                self.assertEqual(told(cut[k], cut[j]), rows[places[k]][places[j]])
                ways = shortest_ways(WEB, places[k], places[j])[0]
                gone = tuple(places[place] for place in walk(cut, k, j))
                self.assertIn(gone, ways + [()] * (rows[places[k]][places[j]] is None), (places, k, j))
                self.assertEqual(walk(cut, k, j), walk_by_hand(cut, k, j))

    def test_of_no_part_they_are_not(self):
        # Why a part is asked for: without 1 the labels of 0 and 2 tell no length any more.
        labels = by_order(ROW, (1, 0, 2))
        self.assertEqual(cut_down(labels, (0, 2)), ((own(0),), (own(1),)))


class PartOfAPart(unittest.TestCase):
    def check(self, web, order, places, within):
        """Cut down twice, and at once."""
        less = part_web(web, places)
        both = tuple(places[k] for k in within)
        self.assertIs(is_part(less, within), is_part(web, both), (web, places, within))
        if is_part(less, within):
            self.assertEqual(part_web(less, within), part_web(web, both))
            self.assertEqual(part_order(part_order(order, places), within), part_order(order, both))
            labels = by_order(web, order)
            self.assertEqual(cut_down(cut_down(labels, places), within), cut_down(labels, both))

    def test_some(self):
        less = part_web(WEB, (1, 3, 4, 5, 6))
        self.assertEqual(less, (5, ((0, 1, 3), (1, 2, 10), (3, 4, 8))))
        self.assertEqual(part_web(less, (1, 2, 4)), (3, ((0, 1, 10),)))
        self.assertEqual(part_web(WEB, (3, 4, 6)), (3, ((0, 1, 10),)))
        self.assertIs(is_part(less, (0, 2)), False)

    def test_each_part_of_each_part_of_a_web(self):
        for places in PARTS_OF_WEB:
            for within in all_places(len(places)):
                self.check(WEB, ORDER, places, within)

    def test_great_webs(self):
        for web, order in zip(great_webs(), great_orders()):
            for places in great_parts(web)[1::6]:
                less = part_web(web, places)
                for within in great_parts(less)[::6]:
                    self.check(web, order, places, within)


class AskersOwn(unittest.TestCase):
    def test_webs_and_parts_by_turns(self):
        asked = [(WEB, (0, 1, 2, 3)), (WEB, (3, 4, 5, 6)), (ROW, (1, 2)), (RING, (0, 3)), (WEB, (1, 3, 4))]
        ahead = copy.deepcopy(asked)
        labels = by_order(WEB, ORDER)
        kept = copy.deepcopy(labels)
        first = (part_web(WEB, (1, 3, 4)), part_order(ORDER, (1, 3, 4)), cut_down(labels, (1, 3, 4)))
        for k in range(3):
            for web, places in asked:
                self.assertIs(is_part(web, places), True)
                self.assertEqual(with_kinds(part_web(web, places)), with_kinds(part_web_by_hand(web, places)))
                with self.assertRaises(NoPart):
                    part_web(web, places[::-1])
        self.assertEqual(with_kinds(first), with_kinds((
            (3, ((0, 1, 3), (1, 2, 10))), (1, 0, 2),
            ((own(0), (1, 3, 1, 0)), (own(1),), ((1, 10, 1, 2), own(2))),
        )))
        self.assertEqual(with_kinds(labels), with_kinds(kept))
        self.assertEqual(with_kinds(asked), with_kinds(ahead))


if __name__ == "__main__":
    unittest.main()
