import copy
import itertools
import unittest

from by_hand import (
    all_orders, great_orders, great_webs, nested, parted_plan, plan_fault_by_hand, plan_in_a_row, plan_rows,
    small_webs, with_kinds,
)
from checked import Checked
from labelways.errors import NoPlan
from labelways.orders import by_order, is_order, longest
from labelways.plans import chain, deepest, is_plan, lets_plan, plan_order

ROW = (3, ((0, 1, 2), (1, 2, 3)))
RING = (4, ((0, 1, 1), (0, 3, 1), (1, 2, 1), (2, 3, 1)))
PARTED = (4, ((0, 2, 1), (1, 3, 2)))
# 0 to 3 has two ways of 5, by 1 and by 2; 4 hangs on 3; 5 and 6 lie apart.
WEB = (7, ((0, 1, 2), (0, 2, 1), (0, 3, 6), (1, 3, 3), (2, 3, 4), (3, 4, 10), (5, 6, 8)))
LEAF = ((0,), ())
ROW_PLAN = ((1,), (((0,), ()), ((2,), ())))
# Own places of one and of several, plans of none, one and several.
WEB_PLAN = ((0, 3), (((4,), ()), ((1,), ()), ((5,), (((6,), ()),)), ((2,), ())))
# Right for no web of twelve places or fewer.
TALL = ((7, 12), (((3, 20), (((40,), ()), ((1, 2), ()))), ((0,), ()), ((9,), (((5,), (((6, 8), ()),)),))))


def plan_with(within):
    """A plan with so many plans within one another, itself one."""
    return plan_in_a_row(range(within))


class IsPlan(unittest.TestCase):
    def assertIsPlan(self, thing):
        self.assertIs(is_plan(thing), True, repr(thing)[:200])

    def assertNoPlan(self, thing):
        self.assertIs(is_plan(thing), False, repr(thing)[:200])

    def test_plans(self):
        for plan in (LEAF, ROW_PLAN, WEB_PLAN, TALL, ((0, 1, 2), ()), ((5,), (LEAF,)), ((0,), (LEAF, LEAF, LEAF))):
            self.assertIsPlan(plan)

    def test_numbers_from_0_on(self):
        for number in (0, 1, 23, 24, 100, 10 ** 39, 10 ** 40 - 1):
            self.assertIsPlan(((number,), ()))
            self.assertIsPlan(((3,), (((number,), ()),)))
        for number in (-1, -2, -24, -(10 ** 39)):
            self.assertNoPlan(((number,), ()))
            self.assertNoPlan(((number, 0), ()))
            self.assertNoPlan(((3,), (((number,), ()),)))
            self.assertNoPlan(((3,), (((number, 5), ()),)))

    def test_places_that_are_none(self):
        wrong = [(), [], [0], None, 0, "0", "", True, (True,), (False,), (None,), ("0",), ("",), ((0,),), ([0],), ((),)]
        wrong += [(0, 0), (1, 0), (0, 1, 1), (0, 2, 1), (1, 1), (0, True), (False, 1), (0, None), (0, "1"), (0, (1,))]
        wrong += [(0, [1]), (0, 1, 2, 2), ("a", "b"), ((), (0,)), (None, None), (0, 1, -1), (-1, 0, 1), (-2, -1)]
        for places in wrong:
            self.assertNoPlan((places, ()))
            self.assertNoPlan((places, (LEAF,)))
            self.assertNoPlan(((7,), ((places, ()),)))
            self.assertNoPlan(((7,), (LEAF, (places, ()))))
            self.assertNoPlan(((7,), ((places, ()), LEAF)))
            self.assertNoPlan(((7,), (LEAF, ((8,), (LEAF, (places, ()), LEAF)), LEAF)))

    def test_plans_that_are_none(self):
        wrong = [[], [LEAF], None, 0, 1, "", "0", True, False, (0,), (None,), ("",), ((),), ([],), (LEAF, None), LEAF]
        wrong += [(0, LEAF), (LEAF, ()), (LEAF, []), (list(LEAF),), (((0,), []),), (((0,),),), ((0,),), (True,)]
        wrong += [(LEAF, LEAF + ((),)), (LEAF, LEAF[:1]), ((LEAF,),), ((LEAF, LEAF),)]
        for plans in wrong:
            self.assertNoPlan(((0,), plans))
            self.assertNoPlan(((7,), (((0,), plans),)))
            self.assertNoPlan(((7,), (LEAF, ((0,), plans), LEAF)))

    def test_things_of_other_kinds(self):
        things = [None, True, False, 0, 1, 24, -1, 10 ** 39, "", "plan", "x" * 2000, (), [], ((),), [[]], ((), ())]
        things += [(0, ()), (0, 0), [(0,), ()], ((0,), [],), ((0,),), ((0,), (), ()), ((0,), (), None), (LEAF,), [LEAF]]
        things += [(LEAF, LEAF), ((), (LEAF,)), ((0,), None), (None, ()), ("0", ()), (True, ()), ((0,), ((0,),))]
        things += [(0,), (0, 1), (0, 1, 2), ([0], []), [[0], []], [[0], ()], ((0,), (), ((0,), ())), "ab"]
        for thing in things:
            self.assertNoPlan(thing)

    def test_twenty_four_within_one_another(self):
        for within in range(1, 25):
            self.assertIsPlan(plan_with(within))
        for within in range(25, 30):
            self.assertNoPlan(plan_with(within))

    def test_twenty_four_within_one_another_beside_others(self):
        for within in range(1, 24):
            right = plan_with(within)
            for plans in [(right, LEAF), (LEAF, right), (LEAF, right, LEAF), (right, right)]:
                self.assertIsPlan(((5,), plans))
        for plans in [(plan_with(24), LEAF), (LEAF, plan_with(24)), (LEAF, plan_with(24), LEAF)]:
            self.assertNoPlan(((5,), plans))
        # The deepest stands neither first nor last, two plans within.
        self.assertIsPlan(((5,), (LEAF, ((1, 2), (LEAF, plan_with(22), LEAF)), LEAF)))
        self.assertNoPlan(((5,), (LEAF, ((1, 2), (LEAF, plan_with(23), LEAF)), LEAF)))

    def test_fault_far_within(self):
        for within in range(23):
            for wrong in (None, (), [], ((), ()), ((True,), ()), ((0,), []), ((-1,), ()), ([0], ()), ((0,),)):
                thing = wrong
                for k in range(within):
                    thing = ((k,), (thing,))
                self.assertNoPlan(thing)

    def test_deep_things(self):
        for kind in (tuple, list):
            self.assertNoPlan(nested(kind, 60))
            self.assertNoPlan((nested(kind, 59), ()))
            self.assertNoPlan(((0,), nested(kind, 59)))
            self.assertNoPlan(((0,), (nested(kind, 58),)))
            self.assertNoPlan(((nested(kind, 58),), ()))
        # A plan's shape all the way down.
        thing = LEAF
        for k in range(28):
            thing = ((0,), (thing,))
        self.assertNoPlan(thing)

    def test_long_things(self):
        self.assertIsPlan((tuple(range(100000)), ()))
        self.assertIsPlan(((0,), (LEAF,) * 100000))
        self.assertIsPlan(((0,), (((1,), (LEAF,) * 50000),) * 2))
        self.assertNoPlan((tuple(range(100000)) + (99999,), ()))
        self.assertNoPlan((tuple(range(100000)) + (True,), ()))
        self.assertNoPlan((list(range(100000)), ()))
        self.assertNoPlan(((0,), (LEAF,) * 100000 + (None,)))
        self.assertNoPlan(((0,), [LEAF] * 100000))
        self.assertNoPlan((0,) * 100000)

    def test_numbers_may_stand_twice(self):
        # Whether a number stands twice is no matter of the kind.
        self.assertIsPlan(((0,), (((0,), ()),)))
        self.assertIsPlan(((1, 2), (((1, 2), ()), ((2,), ()))))


class Told(unittest.TestCase):
    def check(self, plan, chains, order, most):
        self.assertEqual(with_kinds(plan_order(plan)), with_kinds(order))
        self.assertEqual(with_kinds(deepest(plan)), with_kinds(most))
        for place, asked in chains.items():
            self.assertEqual(with_kinds(chain(plan, place)), with_kinds(asked), (plan, place))

    def test_own_places_alone(self):
        self.check(LEAF, {0: (0,)}, (0,), 1)
        self.check(((2, 5, 9), ()), {2: (2, 5, 9), 5: (2, 5, 9), 9: (2, 5, 9)}, (2, 5, 9), 3)

    def test_row_plan(self):
        self.check(ROW_PLAN, {0: (0, 1), 1: (1,), 2: (1, 2)}, (1, 0, 2), 2)

    def test_web_plan(self):
        chains = {0: (0, 3), 1: (0, 1, 3), 2: (0, 2, 3), 3: (0, 3), 4: (0, 3, 4), 5: (0, 3, 5), 6: (0, 3, 5, 6)}
        self.check(WEB_PLAN, chains, (0, 3, 4, 1, 5, 6, 2), 4)

    def test_chains_rise_whatever_stands_outside(self):
        chains = {
            7: (7, 12), 12: (7, 12), 3: (3, 7, 12, 20), 20: (3, 7, 12, 20), 40: (3, 7, 12, 20, 40),
            1: (1, 2, 3, 7, 12, 20), 2: (1, 2, 3, 7, 12, 20), 0: (0, 7, 12), 9: (7, 9, 12), 5: (5, 7, 9, 12),
            6: (5, 6, 7, 8, 9, 12), 8: (5, 6, 7, 8, 9, 12),
        }
        self.check(TALL, chains, (7, 12, 3, 20, 40, 1, 2, 0, 9, 5, 6, 8), 6)

    def test_order_goes_plan_by_plan_not_by_numbers(self):
        plan = ((9,), (((8,), (((1,), ()), ((0,), ()))), ((2,), (((7,), ()),))))
        self.check(plan, {0: (0, 8, 9), 7: (2, 7, 9)}, (9, 8, 1, 0, 2, 7), 3)

    def test_longest_chain_wherever_it_stands(self):
        tall = ((3, 4, 5), (((6,), ()),))
        for plans in [(tall, ((1,), ()), ((2,), ())), (((1,), ()), tall, ((2,), ())), (((1,), ()), ((2,), ()), tall)]:
            self.assertEqual(deepest(((0,), plans)), 5)
        # One plan of many places is deeper than several within one another.
        wide = ((10, 11, 12, 13, 14, 15), ())
        self.assertEqual(deepest(((0,), (plan_in_a_row((1, 2, 3)), wide))), 7)
        self.assertEqual(deepest(((0,), (wide, plan_in_a_row((1, 2, 3, 4, 5, 6, 7))))), 8)

    def test_twenty_four_within_one_another(self):
        for order in great_orders():
            plan = plan_in_a_row(order)
            self.assertEqual(plan_order(plan), order)
            self.assertEqual(deepest(plan), 24)
            for k, place in enumerate(order):
                self.assertEqual(chain(plan, place), tuple(sorted(order[:k + 1])))

    def test_as_told_by_hand(self):
        for web in great_webs():
            for order in great_orders():
                plan = parted_plan(web, order)
                rows = plan_rows(plan)
                self.assertEqual(plan_order(plan), tuple(place for place, row in rows))
                self.assertEqual(deepest(plan), max(len(row) for place, row in rows))
                for place, row in rows:
                    self.assertEqual(with_kinds(chain(plan, place)), with_kinds(tuple(sorted(row))))

    def test_chain_has_each_number_once(self):
        self.assertEqual(chain(((0, 2), (((0,), (((1,), ()),)),)), 1), (0, 1, 2))

    def test_great_numbers_and_many_plans(self):
        plan = ((10 ** 39,), tuple(((k,), ()) for k in range(5000)))
        self.assertEqual(chain(plan, 4321), (4321, 10 ** 39))
        self.assertEqual(plan_order(plan), (10 ** 39,) + tuple(range(5000)))
        self.assertEqual(deepest(plan), 2)


class CheckedPlan(Checked):
    checker = staticmethod(lets_plan)
    refusal = NoPlan

    def assertAsByHand(self, web, plan):
        return self.assertAnswer(web, plan, plan_fault_by_hand(web, plan))


class Right(CheckedPlan):
    def test_one_place(self):
        self.assertLetBy((1, ()), LEAF)

    def test_plans_of_some_webs(self):
        self.assertLetBy(ROW, ROW_PLAN)
        self.assertLetBy(WEB, WEB_PLAN)
        self.assertLetBy(RING, ((0, 2), (((1,), ()), ((3,), ()))))
        self.assertLetBy(RING, ((1,), (((3,), (((0,), ()), ((2,), ()))),)))
        self.assertLetBy(PARTED, ((1,), (((3,), ()), ((0, 2), ()))))

    def test_all_places_at_once(self):
        for web in (ROW, RING, PARTED, WEB, (24, ())) + tuple(great_webs()):
            self.assertLetBy(web, (tuple(range(web[0])), ()))

    def test_all_places_in_a_row(self):
        for web in (ROW, RING, PARTED):
            for order in all_orders(web[0]):
                self.assertLetBy(web, plan_in_a_row(order))
        for web in great_webs():
            for order in great_orders():
                self.assertLetBy(web, plan_in_a_row(order))

    def test_parts_that_no_tie_joins(self):
        self.assertLetBy((3, ()), ((2,), (((0,), ()), ((1,), ()))))
        self.assertLetBy((24, ()), ((0,), tuple(((k,), ()) for k in range(23, 0, -1))))

    def test_parted_plans(self):
        for web in great_webs():
            for order in great_orders():
                self.assertLetBy(web, parted_plan(web, order))

    def test_tie_from_far_outside(self):
        # 0 is three plans outside of 3.
        plan = ((0,), (((1,), (((2,), (((3,), ()),)), ((4,), ()))),))
        self.assertLetBy((5, ((0, 3, 1), (0, 4, 1), (1, 3, 1), (1, 4, 9))), plan)
        self.assertFault((5, ((0, 3, 1), (0, 4, 1), (1, 4, 9), (3, 4, 1))), plan, "tie", (3, 4))


class Shape(CheckedPlan):
    def test_no_plans(self):
        things = [None, True, 0, 1, "", "plan", (), [], ((),), [[]], ((), ()), (0, ()), [(0,), ()], ((0,), []), ((0,),)]
        things += [((0, 1, 2), (), ()), ((0, 0), ()), ((1, 0, 2), ()), ((0, True, 2), ()), ([0, 1, 2], ()), ((-1,), ())]
        things += [((1,), (((0,), ()), [(2,), ()])), ((1,), [((0,), ()), ((2,), ())])]
        things += [((1,), (((0,), ()), ((2,), None))), ((1,), ((0,), (2,))), ((), (((0, 1, 2), ()),))]
        things += [(((1,), ()), ((0,), ()), ((2,), ()))]
        things += [nested(tuple, 60), nested(list, 60), (0,) * 100000, [0] * 100000, ((0,), (None,) * 100000)]
        for thing in things:
            self.assertFault(ROW, thing, "shape", None)

    def test_more_than_twenty_four_within_one_another(self):
        self.assertLetBy((24, ()), plan_with(24))
        for within in (25, 26, 29):
            self.assertFault((24, ()), plan_with(within), "shape", None)
        # Each number is a place, but some stand twice.
        self.assertFault((24, ()), plan_in_a_row(tuple(range(24)) + (0,)), "shape", None)
        self.assertFault((3, ()), plan_in_a_row((0,) * 24), "place", 0)
        self.assertFault((3, ()), plan_in_a_row((0,) * 25), "shape", None)

    def test_ahead_of_all(self):
        # A number stands twice, one is no place, one lacks, and far within there is a list.
        self.assertFault(ROW, ((1,), (((1,), ()), ((9,), [])),), "shape", None)
        self.assertFault(ROW, ((0, 2, 1), ()), "shape", None)


class Place(CheckedPlan):
    def test_no_place_of_the_web(self):
        for number in (3, 4, 24, 10 ** 39):
            self.assertFault(ROW, ((0, 1, 2, number), ()), "place", number)
            self.assertFault(ROW, ((1,), (((0,), ()), ((number,), ()))), "place", number)
            self.assertFault(ROW, ((number,), (ROW_PLAN,)), "place", number)
        self.assertFault((1, ()), ((1,), ()), "place", 1)
        for web in great_webs():
            self.assertFault(web, (tuple(range(25)), ()), "place", 24)

    def test_stood_ahead(self):
        self.assertFault(ROW, ((0, 1, 2), (LEAF,)), "place", 0)
        self.assertFault(ROW, ((1,), (((0,), ()), ((2,), (((0,), ()),)))), "place", 0)
        self.assertFault(ROW, ((1,), (((0,), ()), ((1, 2), ()))), "place", 1)
        self.assertFault(ROW, ((1,), (((2,), ()), ((0, 2), ()))), "place", 2)

    def test_first_in_its_order(self):
        # 7 stands ahead of the second 1, as the order goes into a plan before it goes on.
        self.assertFault(ROW, ((1,), (((0,), (((7,), ()),)), ((1,), ()))), "place", 7)
        self.assertFault(ROW, ((1,), (((1,), (((7,), ()),)), ((8,), ()))), "place", 1)
        self.assertFault(ROW, ((1,), (((0,), ()), ((8,), (((7,), ()),)))), "place", 8)
        self.assertFault(ROW, ((1, 9), (((8,), ()), ((1,), ()))), "place", 9)
        self.assertFault(ROW, ((5, 6), (((3,), ()),)), "place", 5)
        # Not where a number stood first, but where one stands again.
        self.assertFault(ROW, ((0,), (((1,), ()), ((2,), ()), ((1,), ()), ((0,), ()))), "place", 1)

    def test_ahead_of_lacks_and_tie(self):
        self.assertFault(ROW, ((2,), (((2,), ()),)), "place", 2)
        self.assertFault(ROW, ((1,), (((4,), ()),)), "place", 4)
        self.assertFault(ROW, ((0,), (((1,), ()), ((2,), ()), ((3,), ()))), "place", 3)

    def test_many_plans(self):
        self.assertFault(ROW, ((0,), (((1,), ()),) * 100000), "place", 1)
        self.assertFault(ROW, (tuple(range(100000)), ()), "place", 3)


class Lacks(CheckedPlan):
    def test_least_place(self):
        self.assertFault((3, ()), ((0,), ()), "lacks", 1)
        self.assertFault((3, ()), ((1,), ()), "lacks", 0)
        self.assertFault((3, ()), ((0, 1), ()), "lacks", 2)
        self.assertFault((3, ()), ((2,), (((0,), ()),)), "lacks", 1)
        self.assertFault((3, ()), ((0, 2), ()), "lacks", 1)

    def test_each_set_of_places(self):
        for count in range(1, 6):
            for places in itertools.combinations(range(6), count):
                lacks = min(set(range(6)) - set(places))
                self.assertFault((6, ()), (places, ()), "lacks", lacks)
                self.assertFault((6, ()), plan_in_a_row(places[::-1]), "lacks", lacks)

    def test_plan_of_a_web_with_fewer_places(self):
        self.assertFault((4, ROW[1]), ROW_PLAN, "lacks", 3)
        self.assertFault((24, ()), plan_with(23), "lacks", 23)

    def test_ahead_of_tie(self):
        self.assertFault(RING, ((0,), (((1,), ()), ((2,), ()))), "lacks", 3)
        self.assertFault(RING, ((3,), (((1,), ()), ((2,), ()))), "lacks", 0)


class Tie(CheckedPlan):
    def test_two_plans_side_by_side(self):
        self.assertFault(ROW, ((0,), (((1,), ()), ((2,), ()))), "tie", (1, 2))
        self.assertFault(ROW, ((2,), (((1,), ()), ((0,), ()))), "tie", (0, 1))
        self.assertFault(PARTED, ((1,), (((0,), ()), ((2, 3), ()))), "tie", (0, 2))

    def test_first_tie(self):
        web = (4, ((0, 1, 1), (0, 2, 9), (1, 2, 1), (1, 3, 1), (2, 3, 4)))
        self.assertFault(web, ((0,), (((3,), ()), ((2,), ()), ((1,), ()))), "tie", (1, 2))
        self.assertFault(web, ((2,), (((3,), ()), ((0,), ()), ((1,), ()))), "tie", (0, 1))
        self.assertFault(web, ((1,), (((3,), ()), ((2,), ()), ((0,), ()))), "tie", (0, 2))
        self.assertFault(web, ((0, 1), (((3,), ()), ((2,), ()))), "tie", (2, 3))
        self.assertFault(web, ((0, 2), (((3,), ()), ((1,), ()))), "tie", (1, 3))

    def test_each_two_places_apart(self):
        for a, b in itertools.combinations(range(6), 2):
            rest = tuple(p for p in range(6) if p not in (a, b))
            plan = (rest, (((b,), ()), ((a,), ())))
            ties = tuple((p, q, 1) for p, q in itertools.combinations(range(6), 2))
            self.assertFault((6, ties), plan, "tie", (a, b))
            self.assertLetBy((6, tuple(tie for tie in ties if tie != (a, b, 1))), plan)

    def test_parted_plans_with_one_tie_more(self):
        found = 0
        for web, order in zip(great_webs(), itertools.cycle(great_orders())):
            plan = parted_plan(web, order)
            chains = dict(plan_rows(plan))
            for a, b in list(itertools.combinations(range(24), 2))[::3]:
                if a not in chains[b] and b not in chains[a]:
                    self.assertFault((24, tuple(sorted(web[1] + ((a, b, 5),)))), plan, "tie", (a, b))
                    found += 1
        self.assertGreater(found, 100)


class EachWord(CheckedPlan):
    def test_small_plans(self):
        """All plans of one to three own places, and of one and two plans, for webs of three places."""
        tuples = [(0,), (1,), (2,), (3,), (0, 1), (0, 2), (1, 2), (2, 3), (0, 1, 2)]
        words = {}
        for web in [(3, ()), ROW, (3, ((0, 2, 1),)), (3, ((0, 1, 1), (0, 2, 9), (1, 2, 1))), (2, ((0, 1, 3),))]:
            for own_places in tuples:
                words[self.assertAsByHand(web, (own_places, ()))] = True
                for one, other in itertools.product(tuples[:7], repeat=2):
                    for plans in [((one, ()), (other, ())), ((one, ((other, ()),)),)]:
                        words[self.assertAsByHand(web, (own_places, plans))] = True
        self.assertEqual(set(words), {None, "place", "lacks", "tie"})

    def test_plans_of_other_webs(self):
        webs = list(itertools.islice(small_webs(), 0, None, 203))
        words = {}
        for web, other in itertools.product(webs, repeat=2):
            words[self.assertAsByHand(web, parted_plan(other, (2, 0, 3, 1)))] = True
        self.assertEqual(set(words), {None, "tie"})

    def test_great_plans_of_other_webs(self):
        for web, other in itertools.permutations(great_webs(), 2):
            self.assertAsByHand(web, parted_plan(other, (5, 3) + tuple(k for k in range(24) if k not in (3, 5))))


class ByARightPlan(CheckedPlan):
    def check(self, web, plan):
        """Each hub of a label stands in its place's chain, and no label has more entries than the longest chain."""
        self.assertLetBy(web, plan)
        order = plan_order(plan)
        self.assertIs(is_order(web, order), True)
        labels = by_order(web, order)
        for place, label in enumerate(labels):
            self.assertLessEqual({entry[0] for entry in label}, set(chain(plan, place)), (web, plan))
        self.assertLessEqual(longest(labels), deepest(plan))

    def test_some_webs(self):
        self.check(ROW, ROW_PLAN)
        self.check(WEB, WEB_PLAN)
        self.check(RING, ((0, 2), (((1,), ()), ((3,), ()))))
        self.check(PARTED, ((1,), (((3,), ()), ((0, 2), ()))))

    def test_small_webs(self):
        for web, order in zip(itertools.islice(small_webs(), 0, None, 3), itertools.cycle(all_orders(4))):
            self.check(web, parted_plan(web, order))
            self.check(web, plan_in_a_row(order))

    def test_great_webs(self):
        for web in great_webs():
            for order in great_orders():
                self.check(web, parted_plan(web, order))


class AskersOwn(CheckedPlan):
    def test_stays_as_it_was(self):
        for thing in ([(0, 1, 2), ()], ([0, 1, 2], ()), ((0, 1, 2), []), ((1,), [((0,), ()), ((2,), ())]), [[], 1]):
            ahead = copy.deepcopy(thing)
            self.assertIs(is_plan(thing), False)
            self.assertFault(ROW, thing, "shape", None)
            self.assertEqual(with_kinds(thing), with_kinds(ahead))

    def test_nothing_hangs_on_what_was_asked(self):
        ahead = copy.deepcopy((WEB, WEB_PLAN, TALL))
        for k in range(3):
            self.assertLetBy(WEB, WEB_PLAN)
            self.assertLetBy(ROW, ROW_PLAN)
            self.assertFault(WEB, ROW_PLAN, "lacks", 3)
            self.assertFault(ROW, WEB_PLAN, "place", 3)
            self.assertFault((3, ((0, 1, 1), (0, 2, 1))), ROW_PLAN, "tie", (0, 2))
            self.assertEqual(chain(WEB_PLAN, 6), (0, 3, 5, 6))
            self.assertEqual(chain(TALL, 6), (5, 6, 7, 8, 9, 12))
            self.assertEqual(plan_order(ROW_PLAN), (1, 0, 2))
            self.assertEqual((deepest(TALL), deepest(ROW_PLAN)), (6, 2))
        self.assertEqual(with_kinds((WEB, WEB_PLAN, TALL)), with_kinds(ahead))

    def test_somewhat_beyond_the_bounds(self):
        web = (26, tuple((k, k + 1, 150) for k in range(25)))
        self.assertLetBy(web, (tuple(range(26)), ()))
        self.assertFault(web, (tuple(range(25)), ()), "lacks", 25)


if __name__ == "__main__":
    unittest.main()
