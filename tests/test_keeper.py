import copy
import itertools
import unittest

from by_hand import (
    NO_ORDERS, all_orders, great_orders, great_webs, joined_by_hand, labels_by_hand, lengths_by_hand, nested, own,
    small_webs, with_kinds,
)
from checked import Refusing
from labelways.checker import lets_labels
from labelways.errors import NoOrder, NoTie
from labelways.keeper import Keeper
from labelways.labels import are_labels
from labelways.webs import is_web

ROW = (3, ((0, 1, 2), (1, 2, 3)))
# 0 to 3 has two ways of 5, by 1 and by 2; 4 hangs on 3; 5 and 6 lie apart.
WEB = (7, ((0, 1, 2), (0, 2, 1), (0, 3, 6), (1, 3, 3), (2, 3, 4), (3, 4, 10), (5, 6, 8)))
# Sixty ties, and the pairs of twelve places that are not joined.
PAIRS = list(itertools.combinations(range(12), 2))
SIXTY = (12, tuple((a, b, 1 + (7 * a + 5 * b) % 99) for a, b in PAIRS[:60]))
THINGS = [
    0, 1, 2, 3, -1, 99, 100, 10 ** 39, -(10 ** 39), True, False, None, "", "0", "1", "x" * 2000, (), (0,), (1, 2), [],
    [0], [1, 2], ((0,),), [[1]], nested(tuple, 60), nested(list, 60), (0,) * 1000, [1] * 1000,
]


def joined(web, one, other, long):
    """The web by hand with a tie so long, in the place of one that was there; with none where long is None."""
    ties = {tie[:2]: tie[2] for tie in web[1]}
    ties.pop((min(one, other), max(one, other)), None)
    if long is not None:
        ties[min(one, other), max(one, other)] = long
    return (web[0], tuple(sorted((a, b, ties[a, b]) for a, b in ties)))


def deeds_of(n, count, step):
    """Deeds by crosswise numbers: two unlike places, and a long or None to strike."""
    for k in range(count):
        one = (step * k + k * k // 3) % n
        other = (one + 1 + (k * step + k // 5) % (n - 1)) % n
        yield one, other, None if k % 4 == 3 else 1 + (k * step) % (99 if k % 3 else 4)


def are_unlike(one, other):
    """Whether these are two unlike places of three."""
    return all(type(thing) is int and 0 <= thing <= 2 for thing in (one, other)) and one != other


class Kept(Refusing):
    """What the tests below share: a keeper against the document's words told by hand."""

    def assertKeeps(self, keeper, web, order):
        """Its web, labels, lengths and steps are those of the web by the order."""
        labels = labels_by_hand(web, order)
        self.assertEqual(with_kinds(keeper.web_now()), with_kinds(web))
        self.assertEqual(with_kinds(keeper.labels_now()), with_kinds(labels), (web, order))
        rows = lengths_by_hand(web)
        found = tuple(tuple(keeper.length_of(a, b) for b in range(web[0])) for a in range(web[0]))
        self.assertEqual(with_kinds(found), with_kinds(rows))

    def assertSteps(self, keeper, web):
        """Each step leads by a tie to where the length is less by just that tie."""
        rows = lengths_by_hand(web)
        ties = joined_by_hand(web)
        for one, other in itertools.product(range(web[0]), repeat=2):
            step = keeper.step_of(one, other)
            if one == other or rows[one][other] is None:
                self.assertIsNone(step)
            else:
                self.assertEqual(rows[step][other] + ties[one, step], rows[one][other], (web, one, other))

    def assertNoTie(self, deed, *things):
        self.assertRefused(NoTie, deed, *things)

    def turn(self, keeper, web, order, deed):
        """One deed, with what it tells looked at; the web as it is by then comes back."""
        one, other, long = deed
        ahead = labels_by_hand(web, order)
        told = keeper.strike(one, other) if long is None else keeper.put(one, other, long)
        web = joined(web, one, other, long)
        behind = labels_by_hand(web, order)
        turned = tuple(place for place in range(web[0]) if ahead[place] != behind[place])
        self.assertEqual(with_kinds(told), with_kinds(turned), (web, order, deed))
        return web


class Made(Kept):
    def test_row(self):
        keeper = Keeper(ROW, (1, 0, 2))
        self.assertEqual(with_kinds(keeper.web_now()), with_kinds(ROW))
        self.assertEqual(with_kinds(keeper.labels_now()), with_kinds((
            (own(0), (1, 2, 1, 0)), (own(1),), ((1, 3, 1, 2), own(2)),
        )))
        lengths = [[keeper.length_of(a, b) for b in range(3)] for a in range(3)]
        self.assertEqual(with_kinds(lengths), with_kinds([[0, 2, 5], [2, 0, 3], [5, 3, 0]]))
        steps = [[keeper.step_of(a, b) for b in range(3)] for a in range(3)]
        self.assertEqual(with_kinds(steps), with_kinds([[None, 1, 1], [0, None, 2], [1, 1, None]]))

    def test_one_place(self):
        keeper = Keeper((1, ()), (0,))
        self.assertKeeps(keeper, (1, ()), (0,))
        self.assertIsNone(keeper.step_of(0, 0))

    def test_web_that_is_not_whole(self):
        keeper = Keeper(WEB, (3, 6, 0, 5, 1, 2, 4))
        self.assertKeeps(keeper, WEB, (3, 6, 0, 5, 1, 2, 4))
        self.assertSteps(keeper, WEB)
        self.assertIsNone(keeper.length_of(0, 6))
        self.assertIsNone(keeper.step_of(0, 6))
        self.assertEqual((keeper.length_of(0, 4), keeper.step_of(0, 4)), (15, 1))

    def test_each_order_of_a_web(self):
        web = (4, ((0, 1, 2), (0, 2, 1), (1, 3, 3), (2, 3, 4)))
        for order in all_orders(4):
            self.assertKeeps(Keeper(web, order), web, order)

    def test_great_webs(self):
        for web, order in zip(great_webs(), itertools.cycle(great_orders())):
            keeper = Keeper(web, order)
            self.assertKeeps(keeper, web, order)
            self.assertSteps(keeper, web)

    def test_steps_are_those_of_the_two_labels(self):
        # From 0 to 5 lead 0 1 4 5 and 0 2 3 5, as long; the hub told is 5, then 4, then 3.
        web = (6, ((0, 1, 1), (0, 2, 1), (1, 4, 1), (2, 3, 1), (3, 5, 1), (4, 5, 1)))
        keeper = Keeper(web, (5, 0, 1, 2, 3, 4))
        self.assertEqual((keeper.step_of(0, 5), keeper.step_of(5, 0)), (1, 3))
        keeper = Keeper(web, (4, 5, 0, 1, 2, 3))
        self.assertEqual((keeper.step_of(0, 5), keeper.step_of(5, 0)), (1, 4))
        keeper = Keeper(web, (3, 5, 0, 1, 2, 4))
        self.assertEqual((keeper.step_of(0, 5), keeper.step_of(5, 0)), (2, 3))


class NoOrders(Refusing):
    def assertNoOrder(self, web, thing):
        self.assertRefused(NoOrder, Keeper, web, thing)

    def test_no_orders(self):
        for thing in NO_ORDERS:
            self.assertNoOrder(ROW, thing)

    def test_deep_and_long_things(self):
        for kind in (tuple, list):
            for thing in (nested(kind, 60), (0, 1, nested(kind, 59)), kind([0]) * 100000, kind(range(100000))):
                self.assertNoOrder(ROW, thing)

    def test_orders_of_other_webs(self):
        self.assertNoOrder((1, ()), (0, 1))
        self.assertNoOrder((2, ()), (0,))
        for order in great_orders():
            self.assertNoOrder((23, ()), order)
            self.assertNoOrder((24, ()), list(order))
            self.assertNoOrder((24, ()), order[:-1])

    def test_stays_as_it_was(self):
        for thing in ([0, 1, 2], [[0, 1, 2]], (0, [1], 2)):
            ahead = copy.deepcopy(thing)
            self.assertNoOrder(ROW, thing)
            self.assertEqual(with_kinds(thing), with_kinds(ahead))


class Put(Kept):
    def check(self, keeper, deed, told, web):
        self.assertEqual(with_kinds(keeper.put(*deed)), with_kinds(told))
        self.assertEqual(with_kinds(keeper.web_now()), with_kinds(web))

    def test_first_tie(self):
        keeper = Keeper((2, ()), (1, 0))
        self.check(keeper, (0, 1, 7), (0,), (2, ((0, 1, 7),)))
        self.assertEqual(keeper.labels_now(), ((own(0), (1, 7, 1, 0)), (own(1),)))
        self.assertEqual((keeper.length_of(1, 0), keeper.step_of(1, 0)), (7, 0))

    def test_whichever_is_named_first(self):
        for order in all_orders(3):
            one = Keeper(ROW, order)
            other = Keeper(ROW, order)
            self.assertEqual(one.put(0, 2, 4), other.put(2, 0, 4))
            self.assertEqual(one.web_now(), (3, ((0, 1, 2), (0, 2, 4), (1, 2, 3))))
            self.assertEqual(with_kinds(one.web_now()), with_kinds(other.web_now()))
            self.assertEqual(one.put(2, 1, 1), other.put(1, 2, 1))
            self.assertEqual(one.web_now(), (3, ((0, 1, 2), (0, 2, 4), (1, 2, 1))))
            self.assertEqual(with_kinds(one.web_now()), with_kinds(other.web_now()))

    def test_ties_rise_wherever_they_are_put(self):
        keeper = Keeper((4, ()), (0, 1, 2, 3))
        for one, other in [(3, 2), (0, 3), (2, 1), (0, 1), (1, 3), (2, 0)]:
            keeper.put(one, other, 5)
            self.assertIs(is_web(keeper.web_now()), True)
        self.assertEqual(keeper.web_now()[1], ((0, 1, 5), (0, 2, 5), (0, 3, 5), (1, 2, 5), (1, 3, 5), (2, 3, 5)))

    def test_tie_that_is_longer_than_a_way_turns_nothing(self):
        for order in all_orders(3):
            self.check(Keeper(ROW, order), (0, 2, 6), (), (3, ((0, 1, 2), (0, 2, 6), (1, 2, 3))))

    def test_tie_as_long_as_a_way_turns_an_up_alone(self):
        web = (3, ((0, 1, 2), (0, 2, 5), (1, 2, 3)))
        keeper = Keeper(ROW, (0, 1, 2))
        self.assertEqual(keeper.labels_now()[2][0], (0, 5, 1, 1))
        self.check(keeper, (0, 2, 5), (2,), web)
        self.assertEqual(keeper.labels_now()[2][0], (0, 5, 0, 1))
        # Here 1 is between the others, and ahead of them, with the tie as without it.
        self.check(Keeper(ROW, (1, 0, 2)), (0, 2, 5), (), web)

    def test_tie_as_long_as_a_way_turns_a_down_alone(self):
        # From 0 to 3 leads 0 2 3; put is 0 1 3, as long, and 1 is less than 2.
        keeper = Keeper((4, ((0, 1, 1), (0, 2, 1), (2, 3, 1))), (0, 2, 3, 1))
        self.assertEqual(keeper.labels_now()[3][0], (0, 2, 2, 2))
        self.assertEqual(keeper.put(3, 1, 1), (1, 3))
        self.assertEqual(keeper.labels_now()[3][0], (0, 2, 1, 1))
        # From 0 to 4 leads 0 3 1 4; put is 0 2 5 4, as long, of which only the first step is less.
        keeper = Keeper((6, ((0, 2, 1), (0, 3, 1), (1, 3, 1), (1, 4, 1), (2, 5, 1))), (0, 1, 2, 3, 5, 4))
        self.assertEqual(keeper.labels_now()[4][0], (0, 3, 1, 3))
        keeper.put(4, 5, 1)
        self.assertEqual(keeper.labels_now()[4][0], (0, 3, 1, 2))

    def test_shorter_tie(self):
        keeper = Keeper(ROW, (0, 1, 2))
        self.check(keeper, (0, 2, 4), (2,), (3, ((0, 1, 2), (0, 2, 4), (1, 2, 3))))
        self.assertEqual(keeper.labels_now(), (
            (own(0),), ((0, 2, 0, 1), own(1)), ((0, 4, 0, 2), (1, 3, 1, 2), own(2)),
        ))
        keeper = Keeper(ROW, (1, 0, 2))
        self.check(keeper, (2, 0, 4), (2,), (3, ((0, 1, 2), (0, 2, 4), (1, 2, 3))))
        self.assertEqual(keeper.labels_now(), (
            (own(0), (1, 2, 1, 0)), (own(1),), ((0, 4, 0, 2), (1, 3, 1, 2), own(2)),
        ))

    def test_in_the_place_of_another(self):
        keeper = Keeper(ROW, (1, 0, 2))
        self.check(keeper, (1, 0, 9), (0,), (3, ((0, 1, 9), (1, 2, 3))))
        self.assertEqual(keeper.labels_now()[0], (own(0), (1, 9, 1, 0)))
        self.assertEqual(keeper.length_of(0, 2), 12)
        self.check(keeper, (0, 1, 1), (0,), (3, ((0, 1, 1), (1, 2, 3))))
        self.assertEqual(keeper.length_of(0, 2), 4)

    def test_as_long_as_it_was(self):
        keeper = Keeper(WEB, (3, 6, 0, 5, 1, 2, 4))
        for a, b, long in WEB[1]:
            self.check(keeper, (a, b, long), (), WEB)
            self.check(keeper, (b, a, long), (), WEB)
        self.assertKeeps(keeper, WEB, (3, 6, 0, 5, 1, 2, 4))

    def test_two_parts_joined(self):
        order = (3, 6, 0, 5, 1, 2, 4)
        keeper = Keeper(WEB, order)
        # 6 is ahead of 4, and 3 of both 5 and 6.
        self.assertEqual(keeper.put(6, 4, 2), (4, 5, 6))
        self.assertEqual(keeper.labels_now()[4], ((3, 10, 3, 4), own(4), (6, 2, 6, 4)))
        self.assertEqual((keeper.length_of(0, 5), keeper.step_of(5, 0)), (25, 6))
        self.assertKeeps(keeper, joined(WEB, 4, 6, 2), order)

    def test_least_and_greatest_long(self):
        keeper = Keeper((2, ()), (0, 1))
        self.check(keeper, (0, 1, 1), (1,), (2, ((0, 1, 1),)))
        self.check(keeper, (0, 1, 99), (1,), (2, ((0, 1, 99),)))


class Strike(Kept):
    def test_row(self):
        for one, other in [(0, 1), (1, 0)]:
            keeper = Keeper(ROW, (1, 0, 2))
            self.assertEqual(with_kinds(keeper.strike(one, other)), with_kinds((0,)))
            self.assertEqual(with_kinds(keeper.web_now()), with_kinds((3, ((1, 2, 3),))))
            self.assertEqual(keeper.labels_now(), ((own(0),), (own(1),), ((1, 3, 1, 2), own(2))))
            self.assertEqual((keeper.length_of(0, 2), keeper.step_of(0, 2)), (None, None))
            self.assertEqual(with_kinds(keeper.strike(one + 1, other + 1)), with_kinds((2,)))
            self.assertEqual(keeper.web_now(), (3, ()))

    def test_tie_that_no_shortest_way_goes_along(self):
        keeper = Keeper(WEB, (3, 6, 0, 5, 1, 2, 4))
        self.assertEqual(with_kinds(keeper.strike(0, 3)), with_kinds(()))
        self.assertEqual(keeper.web_now(), (7, WEB[1][:2] + WEB[1][3:]))

    def test_one_of_two_shortest_ways(self):
        keeper = Keeper(WEB, (3, 6, 0, 5, 1, 2, 4))
        self.assertEqual(keeper.labels_now()[0], (own(0), (3, 5, 1, 1)))
        self.assertEqual(keeper.strike(3, 1), (0, 1))
        self.assertEqual(keeper.labels_now()[0], (own(0), (3, 5, 2, 2)))
        self.assertEqual(keeper.labels_now()[1], ((0, 2, 0, 1), own(1), (3, 7, 0, 2)))

    def test_all_ties_one_by_one(self):
        for order in all_orders(7)[::500]:
            keeper = Keeper(WEB, order)
            web = WEB
            for a, b, long in WEB[1][::2] + WEB[1][1::2]:
                web = self.turn(keeper, web, order, (b, a, None))
                self.assertKeeps(keeper, web, order)
            self.assertEqual(web, (7, ()))
            self.assertEqual(keeper.labels_now(), tuple((own(place),) for place in range(7)))

    def test_put_again_all_is_as_it_was(self):
        for order in all_orders(7)[::700]:
            keeper = Keeper(WEB, order)
            ahead = keeper.labels_now()
            for a, b, long in WEB[1]:
                turned = keeper.strike(a, b)
                self.assertEqual(keeper.put(a, b, long), turned)
                self.assertEqual(with_kinds(keeper.labels_now()), with_kinds(ahead))


class Deeds(Kept):
    """Ties put, turned and struck, one behind the other."""

    def go(self, web, order, deeds):
        keeper = Keeper(web, order)
        turned = 0
        for one, other, long in deeds:
            joined_now = (one, other) in joined_by_hand(web)
            if long is None and not joined_now:
                self.assertNoTie(keeper.strike, one, other)
            elif long is not None and not joined_now and len(web[1]) == 60:
                self.assertNoTie(keeper.put, one, other, long)
            else:
                web = self.turn(keeper, web, order, (one, other, long))
                turned += 1
            self.assertKeeps(keeper, web, order)
        self.assertSteps(keeper, web)
        self.assertIs(is_web(keeper.web_now()), True)
        self.assertIs(are_labels(web[0], keeper.labels_now()), True)
        self.assertIs(lets_labels(web, keeper.labels_now()), True)
        return turned

    def test_each_order_of_four_places(self):
        for k, order in enumerate(all_orders(4)):
            self.assertGreater(self.go((4, ()), order, deeds_of(4, 30, 3 + k)), 20)

    def test_from_each_small_web_each_deed(self):
        deeds = list(itertools.product(itertools.combinations(range(4), 2), (None, 1, 2, 3, 4)))
        turns = zip(itertools.islice(small_webs(), 0, None, 5), itertools.cycle(all_orders(4)))
        for web, order in turns:
            for (one, other), long in deeds[:: 1 if len(web[1]) < 3 else 4]:
                if long is not None or (one, other) in joined_by_hand(web):
                    keeper = Keeper(web, order)
                    behind = self.turn(keeper, web, order, (other, one, long))
                    self.assertEqual(keeper.labels_now(), labels_by_hand(behind, order))

    def test_orders_of_seven_places(self):
        for k, order in enumerate(all_orders(7)[::400]):
            self.go(WEB, order, deeds_of(7, 30, 2 + k))

    def test_great_webs(self):
        for k, (web, order) in enumerate(zip(great_webs(), itertools.cycle(great_orders()))):
            self.go(web, order, deeds_of(24, 12, 5 + k))


class Sixty(Kept):
    def test_sixtieth_and_sixty_first(self):
        order = tuple(range(11, -1, -1))
        keeper = Keeper((12, SIXTY[1][:59]), order)
        web = self.turn(keeper, (12, SIXTY[1][:59]), order, SIXTY[1][59])
        self.assertEqual(web, SIXTY)
        self.assertKeeps(keeper, SIXTY, order)
        for one, other in PAIRS[60:]:
            self.assertNoTie(keeper.put, one, other, 1)
            self.assertNoTie(keeper.put, other, one, 99)
        self.assertKeeps(keeper, SIXTY, order)

    def test_in_the_place_of_another_among_sixty(self):
        order = tuple(range(12))
        keeper = Keeper(SIXTY, order)
        web = SIXTY
        for k in range(0, 60, 7):
            a, b, long = SIXTY[1][k]
            web = self.turn(keeper, web, order, (b, a, 100 - long))
            self.assertEqual(len(keeper.web_now()[1]), 60)
        self.assertKeeps(keeper, web, order)
        self.assertNoTie(keeper.put, 10, 11, 5)

    def test_as_long_as_it_was_among_sixty(self):
        keeper = Keeper(SIXTY, tuple(range(12)))
        for a, b, long in SIXTY[1][::6]:
            self.assertEqual(with_kinds(keeper.put(a, b, long)), with_kinds(()))
        self.assertEqual(keeper.web_now(), SIXTY)

    def test_put_where_one_of_sixty_is_struck(self):
        order = tuple(range(12))
        keeper = Keeper(SIXTY, order)
        self.assertNoTie(keeper.put, 10, 11, 1)
        web = self.turn(keeper, SIXTY, order, (0, 5, None))
        web = self.turn(keeper, web, order, (11, 10, 1))
        self.assertKeeps(keeper, web, order)
        self.assertEqual(len(keeper.web_now()[1]), 60)
        self.assertNoTie(keeper.put, 0, 5, 1)
        self.assertNoTie(keeper.strike, 0, 5)

    def test_sixty_ties_from_none(self):
        for order in itertools.islice(great_orders(), 2):
            keeper = Keeper((24, ()), order)
            pairs = list(itertools.combinations(range(24), 2))
            for k in range(60):
                a, b = pairs[k * 37 % 276]
                keeper.put(b, a, 1 + k)
            self.assertNoTie(keeper.put, *pairs[60 * 37 % 276], 1)
            web = (24, tuple(sorted((*pairs[k * 37 % 276], 1 + k) for k in range(60))))
            self.assertKeeps(keeper, web, order)


class Refused(Kept):
    def setUp(self):
        self.order = (1, 2, 0)
        self.keeper = Keeper(ROW, self.order)

    def tearDown(self):
        """What is refused changes nothing."""
        self.assertKeeps(self.keeper, ROW, self.order)
        self.assertSteps(self.keeper, ROW)
        self.assertEqual(self.keeper.put(0, 2, 99), ())

    def test_one_place_twice(self):
        for place in range(3):
            self.assertNoTie(self.keeper.put, place, place, 1)
            self.assertNoTie(self.keeper.strike, place, place)

    def test_no_places(self):
        for thing in THINGS[3:]:
            for place in range(3):
                self.assertNoTie(self.keeper.put, thing, place, 1)
                self.assertNoTie(self.keeper.put, place, thing, 1)
                self.assertNoTie(self.keeper.strike, thing, place)
                self.assertNoTie(self.keeper.strike, place, thing)

    def test_no_two_places_of_any_things(self):
        for one, other in itertools.product(THINGS, repeat=2):
            if not are_unlike(one, other):
                self.assertNoTie(self.keeper.put, one, other, 1)
                self.assertNoTie(self.keeper.strike, one, other)

    def test_longs_that_are_none(self):
        for thing in THINGS + [1000, -99]:
            if type(thing) is not int or not 1 <= thing <= 99:
                self.assertNoTie(self.keeper.put, 0, 1, thing)
                self.assertNoTie(self.keeper.put, 2, 0, thing)
                self.assertNoTie(self.keeper.put, 0, 0, thing)
                self.assertNoTie(self.keeper.put, None, [], thing)

    def test_no_tie_to_strike(self):
        self.assertNoTie(self.keeper.strike, 0, 2)
        self.assertNoTie(self.keeper.strike, 2, 0)

    def test_long_things(self):
        for thing in ((0,) * 100000, [0] * 100000, list(range(100000))):
            self.assertNoTie(self.keeper.put, thing, 1, 1)
            self.assertNoTie(self.keeper.put, 0, thing, 1)
            self.assertNoTie(self.keeper.put, 0, 1, thing)
            self.assertNoTie(self.keeper.put, thing, thing, thing)
            self.assertNoTie(self.keeper.strike, thing, 1)
            self.assertNoTie(self.keeper.strike, 0, thing)

    def test_stays_as_it_was(self):
        for thing in ([0], [[1, 2]], ([0], 1), [True, None]):
            ahead = copy.deepcopy(thing)
            self.assertNoTie(self.keeper.put, thing, 1, 1)
            self.assertNoTie(self.keeper.put, 0, 1, thing)
            self.assertNoTie(self.keeper.strike, 1, thing)
            self.assertEqual(with_kinds(thing), with_kinds(ahead))


class RefusedElsewhere(Kept):
    def test_one_place(self):
        keeper = Keeper((1, ()), (0,))
        for one, other in itertools.product(THINGS, repeat=2):
            self.assertNoTie(keeper.put, one, other, 1)
            self.assertNoTie(keeper.strike, one, other)
        self.assertKeeps(keeper, (1, ()), (0,))

    def test_no_tie_in_a_great_web(self):
        for web, order in zip(great_webs(), itertools.cycle(great_orders())):
            keeper = Keeper(web, order)
            ties = joined_by_hand(web)
            for one, other in itertools.product(range(-1, 25), repeat=2):
                if (one, other) not in ties:
                    self.assertNoTie(keeper.strike, one, other)
            self.assertKeeps(keeper, web, order)

    def test_struck_twice(self):
        keeper = Keeper(ROW, (0, 1, 2))
        keeper.strike(1, 2)
        self.assertNoTie(keeper.strike, 1, 2)
        self.assertNoTie(keeper.strike, 2, 1)
        self.assertKeeps(keeper, (3, ((0, 1, 2),)), (0, 1, 2))


class AskersOwn(Kept):
    def test_what_was_told_stays(self):
        order = (3, 6, 0, 5, 1, 2, 4)
        keeper = Keeper(WEB, order)
        told = [(keeper.web_now(), keeper.labels_now())]
        told.append((keeper.put(4, 6, 2), keeper.web_now(), keeper.labels_now()))
        told.append((keeper.strike(0, 1), keeper.web_now(), keeper.labels_now()))
        kept = copy.deepcopy(told)
        keeper.put(0, 6, 1)
        keeper.strike(3, 4)
        self.assertNoTie(keeper.strike, 3, 4)
        self.assertEqual(with_kinds(told), with_kinds(kept))
        self.assertEqual(told[0][0], WEB)

    def test_what_is_handed_in_stays(self):
        web = copy.deepcopy(WEB)
        order = (3, 6, 0, 5, 1, 2, 4)
        keeper = Keeper(web, order)
        keeper.put(4, 6, 2)
        keeper.strike(0, 1)
        self.assertEqual(with_kinds(web), with_kinds(WEB))
        self.assertEqual(order, (3, 6, 0, 5, 1, 2, 4))

    def test_two_keepers_by_turns(self):
        orders = [(3, 6, 0, 5, 1, 2, 4), (0, 1, 2, 3, 4, 5, 6), (0, 1, 2, 3, 4, 5, 6)]
        keepers = [Keeper(WEB, order) for order in orders]
        webs = [WEB] * 3
        for k, deed in enumerate([(4, 6, 2), (0, 1, None), (0, 6, 1), (5, 6, None), (2, 3, 99), (1, 3, None)]):
            turn = k % 2
            webs[turn] = self.turn(keepers[turn], webs[turn], orders[turn], deed)
            for keeper, web, order in zip(keepers, webs, orders):
                self.assertKeeps(keeper, web, order)
        self.assertEqual(keepers[2].web_now(), WEB)

    def test_made_of_what_another_one_tells(self):
        order = (3, 6, 0, 5, 1, 2, 4)
        one = Keeper(WEB, order)
        one.put(4, 6, 2)
        other = Keeper(one.web_now(), order)
        self.assertEqual(other.labels_now(), one.labels_now())
        one.strike(4, 6)
        self.assertKeeps(other, joined(WEB, 4, 6, 2), order)
        self.assertKeeps(one, WEB, order)

    def test_asking_turns_nothing(self):
        order = (3, 6, 0, 5, 1, 2, 4)
        keeper = Keeper(WEB, order)
        for k in range(2):
            for one, other in itertools.product(range(7), repeat=2):
                keeper.length_of(one, other)
                keeper.step_of(one, other)
            self.assertKeeps(keeper, WEB, order)
        # The tie of 10 is on no shorter way with 9: just 4 hangs on it.
        self.assertEqual(keeper.put(3, 4, 9), (4,))


if __name__ == "__main__":
    unittest.main()
