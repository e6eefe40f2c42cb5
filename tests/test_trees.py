import copy
import itertools
import unittest

from by_hand import (
    all_trees, great_trees, great_webs, parts_by_hand, plan_fault_by_hand, plan_rows, row_tree, small_webs, star_tree,
    tree_plan_by_hand, web_of_pairs, with_kinds,
)
from checked import Refusing
from labelways.errors import NoTree
from labelways.orders import by_order, longest
from labelways.plans import chain, deepest, is_plan, lets_plan, plan_order
from labelways.trees import tree_plan


class TreePlan(unittest.TestCase):
    def check(self, web, asked):
        self.assertEqual(with_kinds(tree_plan(web)), with_kinds(asked), web)

    def test_one_and_two_places(self):
        self.check((1, ()), ((0,), ()))
        # Either place leaves one, so the least is the middle.
        self.check((2, ((0, 1, 7),)), ((0,), (((1,), ()),)))

    def test_three_places(self):
        self.check((3, ((0, 1, 2), (1, 2, 3))), ((1,), (((0,), ()), ((2,), ()))))
        self.check((3, ((0, 1, 2), (0, 2, 3))), ((0,), (((1,), ()), ((2,), ()))))
        self.check((3, ((0, 2, 2), (1, 2, 3))), ((2,), (((0,), ()), ((1,), ()))))

    def test_rows(self):
        self.check(row_tree(4), ((1,), (((0,), ()), ((2,), (((3,), ()),)))))
        self.check(row_tree(5), ((2,), (((0,), (((1,), ()),)), ((3,), (((4,), ()),)))))
        self.check(row_tree(7), ((3,), (((1,), (((0,), ()), ((2,), ()))), ((5,), (((4,), ()), ((6,), ()))))))

    def test_row_with_crosswise_numbers(self):
        # 3 - 0 - 2 - 1: 0 and 2 leave two places each at most, 0 is the least.
        self.check((4, ((0, 2, 1), (0, 3, 1), (1, 2, 1))), ((0,), (((1,), (((2,), ()),)), ((3,), ()))))
        # 0 - 3 - 2 - 1: 2 and 3 part it alike, so 2; then the parts of 0 and of 1, though 3 is beside 2 as well.
        self.check((4, ((0, 3, 1), (1, 2, 1), (2, 3, 1))), ((2,), (((0,), (((3,), ()),)), ((1,), ()))))

    def test_stars(self):
        for n in range(3, 25):
            for middle in (0, n // 2, n - 1):
                leaves = tuple(((k,), ()) for k in range(n) if k != middle)
                self.check(star_tree(n, middle), ((middle,), leaves))

    def test_parts_by_their_least_places(self):
        # Round 0 hang 4 - 1, 5 - 3 and 2: the parts of 1, 2 and 3, by no matter which place each hangs.
        web = web_of_pairs(6, [(0, 4), (4, 1), (0, 2), (0, 5), (5, 3)])
        self.check(web, ((0,), (((1,), (((4,), ()),)), ((2,), ()), ((3,), (((5,), ()),)))))
        # Round 6 hang 5 - 0 and 4 - 1 and 3 - 2.
        web = web_of_pairs(7, [(6, 5), (5, 0), (6, 4), (4, 1), (6, 3), (3, 2)])
        self.check(web, ((6,), (((0,), (((5,), ()),)), ((1,), (((4,), ()),)), ((2,), (((3,), ()),)))))

    def test_middle_counts_places_not_longs(self):
        self.check((5, ((0, 1, 99), (1, 2, 1), (2, 3, 1), (3, 4, 1))), tree_plan(row_tree(5)))

    def test_middle_is_not_the_one_with_most_ties(self):
        # 1 has four ties, but 4, on the long row, leaves the lesser greatest part.
        web = web_of_pairs(10, [(1, 0), (1, 2), (1, 3), (1, 4), (4, 5), (5, 6), (6, 7), (7, 8), (8, 9)])
        self.assertEqual(tree_plan(web)[0], (4,))

    def test_middle_is_not_the_one_that_leaves_most_parts_or_parts_most_alike(self):
        # Without 5 the parts have 5, 4 and 1 places, without 6 they have 6 and 4.
        web = web_of_pairs(11, [(0, 1), (1, 2), (2, 3), (3, 4), (4, 5), (5, 10), (5, 6), (6, 7), (7, 8), (8, 9)])
        self.assertEqual(tree_plan(web)[0], (5,))

    def test_each_tree_of_few_places(self):
        for n in range(1, 7):
            for web in all_trees(n):
                self.check(web, tree_plan_by_hand(web))

    def test_trees_of_seven_places(self):
        for web in all_trees(7)[::17]:
            self.check(web, tree_plan_by_hand(web))

    def test_trees_of_up_to_24_places(self):
        for web in great_trees():
            self.check(web, tree_plan_by_hand(web))

    def test_somewhat_beyond_the_bounds(self):
        web = (30, tuple((k, k + 1, 150) for k in range(29)))
        self.check(web, tree_plan_by_hand(web))


class WhatFollows(unittest.TestCase):
    def check(self, web):
        plan = tree_plan(web)
        self.assertIs(is_plan(plan), True)
        self.assertIs(lets_plan(web, plan), True)
        self.assertIsNone(plan_fault_by_hand(web, plan))
        figures = len(f"{web[0]:b}")
        self.assertLessEqual(deepest(plan), figures, web)
        self.assertLessEqual(max(len(row) for place, row in plan_rows(plan)), figures, web)
        labels = by_order(web, plan_order(plan))
        self.assertLessEqual(longest(labels), figures)
        self.assertLessEqual(longest(labels), 5)
        for place, label in enumerate(labels):
            self.assertLessEqual({entry[0] for entry in label}, set(chain(plan, place)))

    def test_trees_of_few_places(self):
        for n in range(1, 6):
            for web in all_trees(n):
                self.check(web)
        for web in all_trees(6)[::5] + all_trees(7)[::41]:
            self.check(web)

    def test_trees_of_up_to_24_places(self):
        for web in great_trees():
            self.check(web)

    def test_as_long_as_the_figures_by_twos_in_rows(self):
        for n, figures in zip(range(1, 25), [1] + [2] * 2 + [3] * 4 + [4] * 8 + [5] * 9):
            self.assertEqual(deepest(tree_plan(row_tree(n))), figures)

    def test_of_each_middle_the_parts_have_at_most_half(self):
        for web in great_trees():
            middle = tree_plan(web)[0][0]
            for part in parts_by_hand(web, set(range(web[0])) - {middle}):
                self.assertLessEqual(2 * len(part), web[0])


class Refused(Refusing):
    def assertNoTree(self, web):
        self.assertRefused(NoTree, tree_plan, web)

    def test_tie_too_many(self):
        self.assertNoTree((3, ((0, 1, 1), (0, 2, 1), (1, 2, 1))))
        self.assertNoTree((4, ((0, 1, 1), (0, 3, 1), (1, 2, 1), (2, 3, 1))))
        self.assertNoTree((4, ((0, 1, 1), (0, 2, 1), (1, 2, 1), (2, 3, 1))))

    def test_tie_too_few(self):
        for n in range(2, 25):
            self.assertNoTree((n, ()))
        self.assertNoTree((4, ((0, 2, 1), (1, 3, 2))))

    def test_as_many_ties_as_a_tree_but_not_whole(self):
        self.assertNoTree((4, ((0, 1, 1), (0, 2, 1), (1, 2, 1))))
        self.assertNoTree((4, ((1, 2, 1), (1, 3, 1), (2, 3, 1))))
        self.assertNoTree((5, ((0, 1, 1), (0, 4, 1), (1, 4, 1), (2, 3, 1))))

    def test_trees_with_a_tie_more_or_fewer(self):
        for web in great_trees():
            n, ties = web
            for k in range(0, len(ties), 4):
                self.assertNoTree((n, ties[:k] + ties[k + 1:]))
            pairs = [tie[:2] for tie in ties]
            lacks = [(a, b, 1) for a, b in itertools.combinations(range(n), 2) if (a, b) not in pairs]
            for tie in lacks[::29]:
                self.assertNoTree((n, tuple(sorted(ties + (tie,)))))
            if n < 24:
                self.assertNoTree((n + 1, ties))

    def test_each_small_web(self):
        trees = 0
        for web in small_webs():
            if len(web[1]) == 3 and len(parts_by_hand(web, range(4))) == 1:
                self.assertEqual(tree_plan(web), tree_plan_by_hand(web))
                trees += 1
            else:
                self.assertNoTree(web)
        self.assertEqual(trees, 16 * 27)

    def test_great_webs(self):
        for web in great_webs():
            self.assertNoTree(web)


class AskersOwn(unittest.TestCase):
    def test_webs_by_turns(self):
        webs = [row_tree(24), star_tree(24, 5), star_tree(24, 6), row_tree(23)]
        plans = [tree_plan_by_hand(web) for web in webs]
        ahead = copy.deepcopy(webs)
        for k in range(3):
            for web, plan in zip(webs, plans):
                self.assertEqual(with_kinds(tree_plan(web)), with_kinds(plan))
        first = tree_plan(webs[0])
        kept = copy.deepcopy(first)
        tree_plan(webs[1])
        self.assertEqual(with_kinds(first), with_kinds(kept))
        self.assertEqual(with_kinds(webs), with_kinds(ahead))


if __name__ == "__main__":
    unittest.main()
