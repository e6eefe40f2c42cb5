import copy
import itertools
import unittest

from by_hand import (
    all_orders, brings_by_hand, great_orders, great_webs, labels_by_hand, least_fault_by_hand, least_numbers_by_hand,
    lengths_by_hand, nested, places_of_set, row_tree, shortest_ways, small_webs, star_tree, with_kinds,
)
from checked import Checked
from labelways.errors import NoLeast, TooMany, WayError
from labelways.leasts import brings, least_order, lets_least
from labelways.orders import by_order, is_order, total

ONE = (1, ())
PAIR = (2, ((0, 1, 5),))
ROW = (3, ((0, 1, 2), (1, 2, 3)))
# A tie of 9 beside a way of 2.
BENT = (3, ((0, 1, 1), (0, 2, 9), (1, 2, 1)))
RING = (4, ((0, 1, 1), (0, 3, 1), (1, 2, 1), (2, 3, 1)))
PARTED = (4, ((0, 2, 1), (1, 3, 2)))
# 0 to 3 has two ways of 5, by 1 and by 2; 4 hangs on 3; 5 and 6 lie apart.
WEB = (7, ((0, 1, 2), (0, 2, 1), (0, 3, 6), (1, 3, 3), (2, 3, 4), (3, 4, 10), (5, 6, 8)))
SIX = (6, ((0, 1, 1), (0, 5, 1), (1, 2, 1), (2, 3, 1), (2, 5, 1), (3, 4, 1), (4, 5, 1)))
EIGHT = (8, (
    (0, 1, 1), (0, 7, 3), (1, 2, 2), (1, 5, 4), (2, 3, 1), (2, 6, 2), (3, 4, 5), (4, 5, 1), (5, 6, 2), (6, 7, 1),
))
NINE = (9, EIGHT[1] + ((7, 8, 1),))
# The least numbers of ROW, by the sets (), 0, 1, 01, 2, 02, 12, 012.
ROW_NUMBERS = (5, 3, 2, 1, 3, 1, 1, 0)


def entries_by_hand(web, order):
    return sum(len(label) for label in labels_by_hand(web, order))


def fewest_by_hand(web):
    return min(entries_by_hand(web, order) for order in all_orders(web[0]))


def with_number(numbers, k, number):
    return numbers[:k] + (number,) + numbers[k + 1:]


class Brings(unittest.TestCase):
    def check(self, web, places, hub, asked):
        self.assertEqual(with_kinds(brings(web, places, hub)), with_kinds(asked), (web, places, hub))

    def test_void_set(self):
        self.check(ONE, (), 0, 1)
        for hub in range(3):
            self.check(ROW, (), hub, 3)
            self.check((3, ()), (), hub, 1)
        for hub, asked in enumerate((5, 5, 5, 5, 5, 2, 2)):
            self.check(WEB, (), hub, asked)

    def test_row(self):
        self.check(ROW, (0,), 1, 2)
        self.check(ROW, (0,), 2, 2)
        self.check(ROW, (1,), 0, 1)
        self.check(ROW, (1,), 2, 1)
        self.check(ROW, (2,), 0, 2)

    def test_place_on_one_of_several_shortest_ways(self):
        # From 0 to 3 there is a way by 2 as well, but 1 is between all the same.
        self.check(WEB, (1,), 0, 2)
        self.check(WEB, (2,), 0, 2)
        self.check(WEB, (1, 2), 0, 1)
        self.check(WEB, (3,), 0, 3)
        self.check(WEB, (0,), 3, 4)
        self.check(WEB, (0, 4), 3, 3)
        self.check(WEB, (0,), 1, 3)

    def test_tie_that_is_longer_than_a_way(self):
        self.check(BENT, (1,), 0, 1)
        self.check(BENT, (0,), 2, 2)

    def test_places_without_a_way_are_in_no_one_s_way(self):
        self.check(WEB, (5, 6), 0, 5)
        self.check(WEB, (0, 1, 2, 3, 4), 5, 2)
        self.check(WEB, (0, 1, 2, 3, 4, 6), 5, 1)
        self.check(PARTED, (0,), 1, 2)
        self.check(PARTED, (0,), 2, 1)

    def test_all_but_one(self):
        for web in (ONE, PAIR, ROW, BENT, RING, PARTED, WEB, EIGHT, NINE):
            for hub in range(web[0]):
                self.check(web, tuple(p for p in range(web[0]) if p != hub), hub, 1)
        for web in great_webs():
            for hub in range(24):
                self.check(web, tuple(p for p in range(24) if p != hub), hub, 1)

    def test_as_the_document_says_of_small_webs(self):
        """Told from all ways of a web, for each set and each place that is not in it."""
        for web in itertools.islice(small_webs(), 0, None, 37):
            between = {}
            for a, b in itertools.product(range(4), repeat=2):
                between[a, b] = {place for way in shortest_ways(web, a, b)[0] for place in way}
            for number in range(15):
                places = places_of_set(number)
                for hub in set(range(4)) - set(places):
                    met = [v for v in range(4) if between[hub, v] and not between[hub, v] & set(places)]
                    self.check(web, places, hub, len(met))

    def test_each_set_of_webs_of_more_places(self):
        for web in (WEB, SIX):
            for number in range(2 ** web[0] - 1):
                places = places_of_set(number)
                for hub in set(range(web[0])) - set(places):
                    self.check(web, places, hub, brings_by_hand(web, places, hub))

    def test_great_webs(self):
        for web, order in zip(great_webs(), itertools.cycle(great_orders())):
            for count in (0, 1, 2, 3, 5, 8, 13, 21, 23):
                places = tuple(sorted(order[:count]))
                for hub in order[count::4]:
                    self.check(web, places, hub, brings_by_hand(web, places, hub))

    def check_sums(self, web, order):
        sums = [brings(web, tuple(sorted(order[:k])), order[k]) for k in range(web[0])]
        self.assertEqual(sum(sums), total(by_order(web, order)), (web, order))

    def test_in_all_the_entries_of_the_labels_by_an_order(self):
        for web in (ONE, PAIR, ROW, BENT, RING, PARTED):
            for order in all_orders(web[0]):
                self.check_sums(web, order)
        for web, order in zip(itertools.islice(small_webs(), 0, None, 5), itertools.cycle(all_orders(4))):
            self.check_sums(web, order)

    def test_in_all_the_entries_of_great_webs(self):
        for web in great_webs():
            for order in great_orders():
                self.check_sums(web, order)

    def test_somewhat_beyond_the_bounds(self):
        web = (26, tuple((k, k + 1, 150) for k in range(25)))
        self.check(web, (), 0, 26)
        self.check(web, (10, 20), 15, 9)


class CheckedLeast(Checked):
    checker = staticmethod(lets_least)
    refusal = NoLeast

    def assertTooMany(self, asked, *things):
        with self.assertRaises(TooMany) as caught:
            asked(*things)
        self.assertIs(type(caught.exception), TooMany)
        self.assertIsInstance(caught.exception, WayError)

    def assertAsByHand(self, web, order, numbers):
        return self.assertAnswer(web, (order, numbers), least_fault_by_hand(web, order, numbers))


class LetBy(CheckedLeast):
    def test_one_place(self):
        self.assertLetBy(ONE, ((0,), (1, 0)))

    def test_two_places(self):
        for order in all_orders(2):
            self.assertLetBy(PAIR, (order, (3, 1, 1, 0)))
            self.assertLetBy((2, ()), (order, (2, 1, 1, 0)))

    def test_row(self):
        self.assertLetBy(ROW, ((1, 0, 2), ROW_NUMBERS))
        self.assertLetBy(ROW, ((1, 2, 0), ROW_NUMBERS))

    def test_numbers_below_the_least_where_nothing_hangs_on_them(self):
        # 0 and 2 bring 3 at first, so behind either 2 is enough for the 5 of the void set.
        self.assertLetBy(ROW, ((1, 0, 2), with_number(ROW_NUMBERS, 1, 2)))
        self.assertLetBy(ROW, ((1, 0, 2), with_number(ROW_NUMBERS, 4, 2)))
        self.assertLetBy(ROW, ((1, 0, 2), (5, 2, 2, 1, 2, 0, 1, 0)))
        self.assertFault(ROW, ((1, 0, 2), with_number(ROW_NUMBERS, 4, 1)), "step", (0, 2))

    def test_numbers_below_0(self):
        # A star round 7: with it each place left brings 1; of the others they bring 8, 7, 6 .. one behind the other,
        # so that the 15 of the void set is soon more than used up.
        used = [15, 7, 0, -6, -11, -15, -18, -20]
        sets = [places_of_set(number) for number in range(256)]
        numbers = tuple(8 - len(places) if 7 in places else used[len(places)] for places in sets)
        self.assertLetBy(star_tree(8, 7), ((7, 0, 1, 2, 3, 4, 5, 6), numbers))
        self.assertFault(star_tree(8, 7), ((7, 0, 1, 2, 3, 4, 5, 6), with_number(numbers, 127, -21)), "step", (63, 6))
        # No tie: each place brings 1, whatever is ahead.
        self.assertFault((2, ()), ((0, 1), (2, -1, 1, 0)), "step", (0, 0))
        self.assertFault((2, ()), ((0, 1), (-1, -2, -2, 0)), "start", None)
        self.assertFault((2, ()), ((0, 1), (-1, -3, -2, 0)), "step", (0, 0))

    def test_whatever_was_told_least(self):
        for web in (ONE, PAIR, ROW, BENT, RING, PARTED, WEB, EIGHT, (8, ())):
            self.assertLetBy(web, least_order(web))

    def test_numbers_told_by_hand(self):
        for web in (ROW, BENT, RING, PARTED, (4, ()), (4, ((0, 3, 2), (1, 3, 2), (2, 3, 1)))):
            numbers = least_numbers_by_hand(web)
            for order in all_orders(web[0]):
                if entries_by_hand(web, order) == numbers[0]:
                    self.assertLetBy(web, (order, numbers))
                else:
                    self.assertFault(web, (order, numbers), "start", None)


class Shape(CheckedLeast):
    def test_things_of_other_kinds(self):
        things = [None, True, False, 0, 1, -1, 10 ** 39, "", "least", "x" * 2000, (), [], (None,), [[]], ((), ())]
        things += [(1, 0, 2), ROW_NUMBERS, ((1, 0, 2),), (ROW_NUMBERS,), (None, None), ("", ""), (0, 0), ([], [])]
        things += [nested(tuple, 60), nested(list, 60), ((1, 0, 2), nested(tuple, 59)), ((), (), ()), ((1, 0, 2), ())]
        things += [((1, 0, 2), (0,) * 100000), ((0,) * 100000, ROW_NUMBERS), (0,) * 100000, [0] * 100000]
        for thing in things:
            self.assertFault(ROW, thing, "shape", None)

    def test_turned_in_its_kinds(self):
        order = (1, 0, 2)
        self.assertFault(ROW, [order, ROW_NUMBERS], "shape", None)
        self.assertFault(ROW, (list(order), ROW_NUMBERS), "shape", None)
        self.assertFault(ROW, (order, list(ROW_NUMBERS)), "shape", None)
        self.assertFault(ROW, (ROW_NUMBERS, order), "shape", None)
        self.assertFault(ROW, (order, ROW_NUMBERS, ()), "shape", None)
        self.assertFault(ROW, (order, ROW_NUMBERS, None), "shape", None)
        self.assertFault(ROW, ((order, ROW_NUMBERS),), "shape", None)
        self.assertFault(ROW, (order + ROW_NUMBERS), "shape", None)

    def test_no_order(self):
        wrong = [(), (0,), (1, 0), (1, 0, 2, 3), (1, 0, 0), (1, 0, 3), (-1, 0, 1), (True, 0, 2), (1, False, 2)]
        wrong += [(1, 0, None), (1, 0, "2"), (1, 0, (2,)), (1, 0, [2]), (1, 0, 2, 1), None, 102, "102", [], [1, 0, 2]]
        for order in wrong:
            self.assertFault(ROW, (order, ROW_NUMBERS), "shape", None)

    def test_numbers_that_are_none(self):
        for k in range(8):
            for wrong in (None, True, False, "0", "", (), [], (0,), [0], (ROW_NUMBERS[k],), str(ROW_NUMBERS[k])):
                self.assertFault(ROW, ((1, 0, 2), with_number(ROW_NUMBERS, k, wrong)), "shape", None)
        # 1 and 0 as truths stand where 1 and 0 would be right.
        self.assertFault(ONE, ((0,), (True, 0)), "shape", None)
        self.assertFault(ONE, ((0,), (1, False)), "shape", None)
        self.assertFault(ONE, ((False,), (1, 0)), "shape", None)

    def test_as_many_numbers_as_sets(self):
        for web in (ONE, PAIR, ROW, RING, EIGHT):
            order, numbers = least_order(web)
            self.assertEqual(len(numbers), 2 ** web[0])
            for wrong in (numbers[:-1], numbers[1:], (0,) + numbers, numbers + (0,), (), (0,), numbers + numbers):
                # (1, 0) without its 1 ends in 0, but is no longer as long.
                self.assertFault(web, (order, wrong), "shape", None)

    def test_of_a_web_of_another_count(self):
        self.assertFault(PAIR, ((1, 0, 2), ROW_NUMBERS), "shape", None)
        self.assertFault(RING, ((1, 0, 2), ROW_NUMBERS), "shape", None)
        self.assertFault(ROW, ((1, 0, 2), least_order(RING)[1]), "shape", None)

    def test_ahead_of_all(self):
        self.assertFault(ROW, ((1, 0, 2), (9, None) + (5,) * 6), "shape", None)
        self.assertFault(ROW, ((1, 0, 0), (9,) * 8), "shape", None)


class End(CheckedLeast):
    def test_last_number(self):
        for last in (1, -1, 2, 5, 10 ** 39, -(10 ** 39)):
            self.assertFault(ROW, ((1, 0, 2), with_number(ROW_NUMBERS, 7, last)), "end", None)
            self.assertFault(ONE, ((0,), (1, last)), "end", None)

    def test_ahead_of_step_and_start(self):
        self.assertFault(ROW, ((1, 0, 2), (99, 3, 2, 1, 3, 1, 1, 1)), "end", None)
        self.assertFault(ROW, ((0, 1, 2), with_number(ROW_NUMBERS, 7, -1)), "end", None)
        self.assertFault(ROW, ((0, 1, 2), (99, 0, 0, 99, 0, 0, 0, 7)), "end", None)

    def test_first_number_may_be_0(self):
        # The void set stands first, the set of all last.
        self.assertFault(ROW, ((1, 0, 2), ROW_NUMBERS[::-1]), "end", None)
        self.assertFault(ROW, ((1, 0, 2), (0,) * 8), "start", None)


class Step(CheckedLeast):
    def test_one_more_than_can_be_brought(self):
        # Behind a set of two the third place brings 1; at () of all places 1 alone leaves less.
        asked = {0: (0, 1), 1: (1, 1), 2: (2, 0), 3: (3, 2), 4: (4, 0), 5: (5, 1), 6: (6, 0)}
        for k, at in asked.items():
            self.assertFault(ROW, ((1, 0, 2), with_number(ROW_NUMBERS, k, ROW_NUMBERS[k] + 1)), "step", at)

    def test_great_numbers(self):
        for number in (10 ** 39, 10 ** 40 - 1):
            self.assertFault(ROW, ((1, 0, 2), with_number(ROW_NUMBERS, 3, number)), "step", (3, 2))
            self.assertFault(ROW, ((1, 0, 2), with_number(ROW_NUMBERS, 3, -number)), "step", (1, 1))

    def test_number_that_makes_the_sets_ahead_too_great(self):
        # 3 at (0,) is more than 2 and 0 at (0, 1).
        self.assertFault(ROW, ((1, 0, 2), with_number(ROW_NUMBERS, 3, 0)), "step", (1, 1))
        self.assertFault(ROW, ((1, 0, 2), with_number(ROW_NUMBERS, 6, 0)), "step", (2, 2))
        self.assertFault(ROW, ((1, 0, 2), with_number(ROW_NUMBERS, 2, 1)), "step", (0, 1))

    def test_least_pair(self):
        # By the set's number first: that of (0, 1) is 3, that of (2,) is 4.
        self.assertFault(ROW, ((1, 0, 2), (5, 3, 2, 9, 9, 9, 9, 0)), "step", (3, 2))
        self.assertFault(ROW, ((1, 0, 2), (5, 3, 2, 1, 9, 1, 1, 0)), "step", (4, 0))
        # Then by the place: at (2,) each is a fault.
        self.assertFault(ROW, ((1, 0, 2), (5, 3, 2, 1, 4, 1, 1, 0)), "step", (4, 0))
        self.assertFault(ROW, ((1, 0, 2), (5, 3, 2, 1, 4, 2, 1, 0)), "step", (4, 1))

    def test_just_as_much_is_let_by_and_one_more_is_not(self):
        """Of each set and each place: all other pairs are far from a fault."""
        for web in (PAIR, ROW, RING, PARTED, WEB):
            n = web[0]
            every = 2 ** n - 1
            for taken, h in itertools.product(range(every), range(n)):
                places = places_of_set(taken)
                if h not in places:
                    numbers = [-1000 if number & taken == taken else -99999 for number in range(every + 1)]
                    numbers[taken + 2 ** h] = -1500
                    numbers[every] = 0
                    numbers[taken] = brings_by_hand(web, places, h) + numbers[taken + 2 ** h]
                    self.assertFault(web, (tuple(range(n)), tuple(numbers)), "start", None)
                    numbers[taken] += 1
                    self.assertFault(web, (tuple(range(n)), tuple(numbers)), "step", (taken, h))

    def test_ahead_of_start(self):
        self.assertFault(ROW, ((0, 1, 2), (6, 3, 2, 1, 3, 1, 1, 0)), "step", (0, 1))
        self.assertFault(ROW, ((0, 1, 2), with_number(ROW_NUMBERS, 6, 2)), "step", (6, 0))


class Start(CheckedLeast):
    def test_order_with_more_entries(self):
        for order in all_orders(3):
            if order[0] != 1:
                self.assertFault(ROW, (order, ROW_NUMBERS), "start", None)

    def test_numbers_that_are_too_low(self):
        for first in (4, 0, -1, -(10 ** 39)):
            self.assertFault(ROW, ((1, 0, 2), with_number(ROW_NUMBERS, 0, first)), "start", None)
        self.assertFault(ROW, ((1, 0, 2), (0,) * 8), "start", None)
        for web in (ONE, PAIR, RING, WEB, EIGHT):
            self.assertFault(web, (tuple(range(web[0])), (0,) * 2 ** web[0]), "start", None)

    def test_another_web_of_as_many_places(self):
        self.assertFault(BENT, ((0, 1, 2), ROW_NUMBERS), "start", None)
        # With no tie each place brings 1.
        self.assertFault((3, ()), ((1, 0, 2), ROW_NUMBERS), "step", (0, 0))


class EachWord(CheckedLeast):
    def test_turned_in_one_or_two_numbers(self):
        words = {}
        for web, order in [(PAIR, (1, 0)), (ROW, (1, 0, 2)), (BENT, (1, 2, 0)), (ROW, (2, 1, 0))]:
            numbers = least_numbers_by_hand(web)
            for one, other in itertools.combinations_with_replacement(range(len(numbers)), 2):
                for more, most in itertools.product((-2, -1, 0, 1, 2), (-1, 0, 1)):
                    turned = with_number(numbers, one, numbers[one] + more)
                    turned = with_number(turned, other, turned[other] + most)
                    words[self.assertAsByHand(web, order, turned)] = True
        self.assertEqual(set(words), {None, "end", "step", "start"})

    def test_each_three_numbers_of_two_places(self):
        for web in (PAIR, (2, ())):
            for numbers in itertools.product(range(-1, 5), range(-1, 3), range(-1, 3), (-1, 0, 1)):
                self.assertAsByHand(web, (1, 0), numbers)

    def test_webs_of_more_places(self):
        for web in (RING, PARTED, WEB[:1] + (WEB[1][:5],)):
            order, numbers = least_order(web)
            for k in range(0, len(numbers), 7):
                for more in (-1, 1):
                    self.assertAsByHand(web, order, with_number(numbers, k, numbers[k] + more))

    def test_let_by_is_least_whoever_wrote_it(self):
        """Numbers that are let by are never with an order that has more entries than another one."""
        for web in (ROW, BENT):
            least = fewest_by_hand(web)
            for order in all_orders(3):
                for one in itertools.product((4, 5, 6), (2, 3), (1, 2, 3), (0, 1), (2, 3), (0, 1), (0, 1), (0,)):
                    if least_fault_by_hand(web, order, one) is None:
                        self.assertEqual(entries_by_hand(web, order), least)
                        self.assertLetBy(web, (order, one))


class Many(CheckedLeast):
    def test_webs_of_more_than_eight_places(self):
        for web in [NINE, (9, ()), (10, EIGHT[1]), (24, ())] + list(great_webs()):
            self.assertTooMany(least_order, web)
            self.assertTooMany(lets_least, web, (tuple(range(web[0])), (0,) * 512))

    def test_ahead_of_all(self):
        things = [None, True, 0, "", (), [], ((), ()), nested(tuple, 60), (0,) * 100000, ((1, 0, 2), ROW_NUMBERS)]
        things += [(tuple(range(9)), (9,) * 512), (tuple(range(9)), (0,) * 512), least_order(EIGHT)]
        for thing in things:
            self.assertTooMany(lets_least, NINE, thing)

    def test_eight_are_not_too_many(self):
        for web in [EIGHT, (8, ()), (8, tuple((a, b, 1) for a, b in itertools.combinations(range(8), 2)))]:
            self.assertLetBy(web, least_order(web))
            self.assertFault(web, None, "shape", None)
            self.assertFault(web, (tuple(range(8)), (0,) * 255 + (1,)), "end", None)

    def test_somewhat_beyond_the_bounds(self):
        self.assertTooMany(least_order, (26, ()))
        self.assertTooMany(lets_least, (26, ()), None)


class LeastOrder(CheckedLeast):
    def check(self, web, asked):
        """As many entries as asked, by an order and numbers that show it."""
        found = least_order(web)
        self.assertEqual((type(found), len(found)), (tuple, 2))
        order, numbers = found
        self.assertIs(is_order(web, order), True)
        self.assertEqual([type(numbers)] + [type(one) for one in numbers], [tuple] + [int] * 2 ** web[0])
        self.assertIsNone(least_fault_by_hand(web, order, numbers), web)
        self.assertLetBy(web, found)
        self.assertEqual(total(by_order(web, order)), asked, (web, order))
        self.assertEqual(entries_by_hand(web, order), asked, (web, order))

    def test_few_places(self):
        self.check(ONE, 1)
        self.check(PAIR, 3)
        self.check((2, ()), 2)
        self.check(ROW, 5)
        self.check(BENT, 5)
        self.check((3, ((0, 1, 1), (0, 2, 1), (1, 2, 1))), 6)
        self.check(RING, 9)
        self.check(PARTED, 6)

    def test_eight_places(self):
        self.check((8, ()), 8)
        # 1 place with 1 entry, 2 with 2, 4 with 3 and 1 with 4.
        self.check(row_tree(8), 21)
        self.check(star_tree(8, 3), 15)
        # Each two places have a hub of their own.
        self.check((8, tuple((a, b, 1) for a, b in itertools.combinations(range(8), 2))), 36)
        # Four pairs.
        self.check((8, tuple((k, k + 4, 3) for k in range(4))), 12)
        # A row of seven, and one place apart.
        self.check((8, row_tree(7)[1]), 18)

    def test_against_all_orders_of_small_webs(self):
        for web in itertools.islice(small_webs(), 0, None, 29):
            self.check(web, fewest_by_hand(web))

    def test_against_all_orders_of_three_places(self):
        for longs in itertools.product((None, 1, 2, 3), repeat=3):
            ties = zip(((0, 1), (0, 2), (1, 2)), longs)
            web = (3, tuple((a, b, long) for (a, b), long in ties if long))
            self.check(web, fewest_by_hand(web))

    def test_against_all_orders_of_more_places(self):
        webs = [(5, WEB[1][:6]), (5, ((0, 1, 1), (0, 4, 2), (1, 2, 1), (2, 3, 2), (3, 4, 2)))]
        for web in webs + [(5, ((0, 4, 3), (1, 3, 2))), SIX]:
            self.check(web, fewest_by_hand(web))

    def test_web_that_is_not_whole(self):
        self.check(WEB, fewest_by_hand((5, WEB[1][:6])) + 3)

    def test_no_order_of_eight_places_has_fewer(self):
        entries = total(by_order(EIGHT, least_order(EIGHT)[0]))
        self.check(EIGHT, entries)
        rows = lengths_by_hand(EIGHT)
        between = [[{p for p in range(8) if rows[a][p] + rows[p][b] == rows[a][b]} for b in range(8)] for a in range(8)]
        for order in itertools.islice(itertools.permutations(range(8)), 0, None, 13):
            # Each two places, or a place with itself, have the first of those between; each such hub is an entry.
            found = 0
            for k, h in enumerate(order):
                ahead = set(order[:k])
                found += len([v for v in range(8) if not between[h][v] & ahead])
            self.assertGreaterEqual(found, entries, order)

    def test_numbers_are_whole_as_told_by_hand(self):
        """Each number told is at most the fewest that the places left can bring."""
        for web in (ROW, RING, PARTED):
            for number, most in zip(least_order(web)[1], least_numbers_by_hand(web)):
                self.assertLessEqual(number, most)


class AskersOwn(CheckedLeast):
    def test_nothing_is_changed_and_nothing_hangs_on_what_was_asked(self):
        ahead = copy.deepcopy((WEB, EIGHT, ROW))
        first = least_order(WEB)
        kept = copy.deepcopy(first)
        least_order(EIGHT)
        least_order(ROW)
        self.assertEqual(with_kinds(first), with_kinds(kept))
        self.assertLetBy(WEB, first)
        self.assertEqual(with_kinds((WEB, EIGHT, ROW)), with_kinds(ahead))

    def test_webs_by_turns(self):
        # Webs of as many places and as many ties, so that nothing but the ties tells them apart.
        webs = [ROW, (3, ((0, 1, 2), (0, 2, 3))), (3, ((0, 2, 2), (1, 2, 3))), BENT, (3, ())]
        for k in range(3):
            for web, order in zip(webs, [(1, 0, 2), (0, 1, 2), (2, 0, 1), (1, 0, 2), (0, 1, 2)]):
                self.assertLetBy(web, least_order(web))
                self.assertEqual(entries_by_hand(web, least_order(web)[0]), 5 if web[1] else 3)
                self.assertEqual(brings(web, order[:1], order[1]), 1)
            self.assertLetBy(ROW, ((1, 0, 2), ROW_NUMBERS))
            self.assertFault(webs[1], ((0, 1, 2), ROW_NUMBERS), "step", (1, 1))
            self.assertFault(webs[2], ((2, 0, 1), ROW_NUMBERS), "step", (4, 0))

    def test_stays_as_it_was(self):
        for thing in ([(1, 0, 2), ROW_NUMBERS], ([1, 0, 2], ROW_NUMBERS), ((1, 0, 2), list(ROW_NUMBERS)), [[], 1]):
            ahead = copy.deepcopy(thing)
            self.assertFault(ROW, thing, "shape", None)
            self.assertEqual(with_kinds(thing), with_kinds(ahead))


if __name__ == "__main__":
    unittest.main()
