"""What the document promises over the whole program: its interface, its promise and why it holds."""

import copy
import importlib
import inspect
import itertools
import re
import unittest

from by_hand import (
    all_orders, all_places, cut_by_hand, full_labels, great_orders, great_parts, great_trees, great_webs,
    is_part_by_hand, joined_by_hand, labels_by_hand, lengths_by_hand, parted_plan, put_in, row_tree, small_webs,
    some_posts, told_by_hand, turned_labels, with_kinds,
)
from labelways.checker import lets_labels
from labelways.desk import Desk
from labelways.errors import NoLabels, NoLeast, NoPart, NoPlan, NoText, WayError
from labelways.keeper import Keeper
from labelways.labels import own_place, told, walk
from labelways.labeltexts import label_lines, read_labels
from labelways.leasts import least_order, lets_least
from labelways.lengths import between, way_length
from labelways.nears import near_labels, near_told
from labelways.orders import by_order, longest, total
from labelways.parts import cut_down, is_part, part_order, part_web
from labelways.plans import chain, deepest, lets_plan, plan_order
from labelways.sparing import can_go
from labelways.trees import tree_plan
from labelways.webtexts import read_web, web_lines

INTERFACE = """
    errors: NoLabels(word, at) NoLeast(word, at) NoPlan(word, at) NoText(line, word)
    webs: is_web(thing) long_of(web, one, other) beside(web, place) is_whole(web)
    lengths: lengths(web) way_length(web, places) between(web, one, other) next_places(web, one, other)
    labels: is_label(n, thing) are_labels(n, thing) own_place(label) told(one, other) told_hub(one, other)
    labels: next_step(one, other) walk(labels, one, other)
    orders: is_order(web, thing) by_order(web, order) total(labels) longest(labels)
    checker: lets_labels(web, thing)
    sparing: can_go(labels)
    leasts: brings(web, places, hub) lets_least(web, thing) least_order(web)
    plans: is_plan(thing) chain(plan, place) plan_order(plan) deepest(plan) lets_plan(web, thing)
    trees: tree_plan(web)
    rings: ring_labels(web) ring_told(one, other) ring_step(one, other)
    nears: near_labels(web, posts) near_told(one, other)
    keeper: Keeper(web, order) Keeper.put(self, one, other, long) Keeper.strike(self, one, other)
    keeper: Keeper.web_now(self) Keeper.labels_now(self) Keeper.length_of(self, one, other)
    keeper: Keeper.step_of(self, one, other)
    parts: is_part(web, thing) part_web(web, thing) part_order(order, places) cut_down(labels, places)
    webtexts: web_lines(web) read_web(lines)
    labeltexts: label_lines(labels) read_labels(lines)
    desk: Desk(lines) Desk.say(self, row)
"""
ROW = (3, ((0, 1, 2), (1, 2, 3)))
# 0 to 3 has two ways of 5, by 1 and by 2; 4 hangs on 3; 5 and 6 lie apart.
WEB = (7, ((0, 1, 2), (0, 2, 1), (0, 3, 6), (1, 3, 3), (2, 3, 4), (3, 4, 10), (5, 6, 8)))
RING = (4, ((0, 1, 1), (0, 3, 1), (1, 2, 1), (2, 3, 1)))
CROSS = (4, ((0, 1, 2), (0, 2, 1), (1, 3, 3), (2, 3, 4)))
ORDER = (3, 6, 0, 5, 1, 2, 4)


def webs_with_orders():
    """Webs of four, seven and 24 places, each with one order or more."""
    yield from itertools.product([RING, CROSS], all_orders(4))
    yield from zip(itertools.islice(small_webs(), 0, None, 25), itertools.cycle(all_orders(4)))
    yield from itertools.product([WEB], [ORDER, ORDER[::-1]])
    yield from zip(great_webs(), itertools.cycle(great_orders()))


def rows_told(labels):
    return [[told(one, other) for other in labels] for one in labels]


def caught(deed, *things):
    try:
        deed(*things)
    except WayError as refusal:
        return refusal
    return None


class Interface(unittest.TestCase):
    def test_names_and_arguments(self):
        for row in INTERFACE.strip().splitlines():
            name, rest = row.strip().split(": ")
            module = importlib.import_module("labelways." + name)
            for thing, arguments in re.findall(r"([A-Za-z_.]+)\(([^)]*)\)", rest):
                found = module
                for part in thing.split("."):
                    found = getattr(found, part)
                self.assertEqual(list(inspect.signature(found).parameters), arguments.split(", "), thing)


class LetBy(unittest.TestCase):
    def assertTellsRightly(self, web, labels):
        rows = lengths_by_hand(web)
        for one, other in itertools.product(range(web[0]), repeat=2):
            self.assertEqual(told(labels[one], labels[other]), rows[one][other], (web, labels))
            gone = walk(labels, one, other)
            if rows[one][other] is None:
                self.assertEqual(gone, [])
            else:
                self.assertEqual((gone[0], gone[-1]), (one, other))
                self.assertEqual(way_length(web, tuple(gone)), rows[one][other], (web, labels))

    def test_by_any_order(self):
        for web, order in webs_with_orders():
            labels = by_order(web, order)
            self.assertIs(lets_labels(web, labels), True)
            self.assertTellsRightly(web, labels)

    def test_whoever_wrote_them(self):
        count = 0
        for web in (RING, CROSS, ROW):
            desk = Desk(web_lines(web))
            for labels in turned_labels(web[0], full_labels(web)):
                if desk.say("check " + "; ".join(label_lines(labels))) == "ok":
                    count += 1
                    self.assertIs(lets_labels(web, labels), True)
                    self.assertTellsRightly(web, read_labels(label_lines(labels)))
                else:
                    self.assertIsInstance(caught(lets_labels, web, labels), NoLabels)
        self.assertGreater(count, 20)

    def test_no_entry_of_labels_by_an_order_can_be_left_out(self):
        for web, order in webs_with_orders():
            labels = by_order(web, order)
            self.assertEqual(can_go(labels), [])
            if web[0] < 24:
                for v, label in enumerate(labels):
                    for entry in label:
                        rest = put_in(labels, v, [other for other in label if other != entry])
                        self.assertNotEqual(rows_told(rest), rows_told(labels), (web, order, v, entry))


class Least(unittest.TestCase):
    def test_no_order_has_fewer(self):
        for web in [RING, CROSS] + list(itertools.islice(small_webs(), 0, None, 300)):
            found = least_order(web)
            self.assertIs(lets_least(web, found), True)
            counts = [total(by_order(web, order)) for order in all_orders(4)]
            self.assertEqual(total(by_order(web, found[0])), min(counts))
            for order, count in zip(all_orders(4), counts):
                refusal = caught(lets_least, web, (order, found[1]))
                self.assertEqual(refusal is None, count == min(counts))

    def test_whoever_wrote_them(self):
        order, numbers = least_order(RING)
        counts = [total(by_order(RING, other)) for other in all_orders(4)]
        for k, more in itertools.product(range(16), (-2, -1, 1, 2)):
            turned = numbers[:k] + (numbers[k] + more,) + numbers[k + 1:]
            for other, count in zip(all_orders(4), counts):
                refusal = caught(lets_least, RING, (other, turned))
                if refusal is None:
                    self.assertEqual(count, min(counts))
                else:
                    self.assertIs(type(refusal), NoLeast)


class Plans(unittest.TestCase):
    def test_hubs_stand_in_the_chains_of_right_plans(self):
        for web, order in webs_with_orders():
            plan = parted_plan(web, order)
            self.assertIs(lets_plan(web, plan), True)
            labels = by_order(web, plan_order(plan))
            for place, label in enumerate(labels):
                self.assertLessEqual({entry[0] for entry in label}, set(chain(plan, place)))
            self.assertLessEqual(longest(labels), deepest(plan))

    def test_trees(self):
        for web in great_trees():
            plan = tree_plan(web)
            self.assertIs(lets_plan(web, plan), True)
            self.assertLessEqual(deepest(plan), len(bin(web[0])) - 2)
            self.assertLessEqual(longest(by_order(web, plan_order(plan))), 5)


class Nears(unittest.TestCase):
    def test_no_less_and_at_most_three_times_as_much(self):
        for web in [RING, CROSS, WEB] + list(great_webs()):
            rows = lengths_by_hand(web)
            for posts in some_posts(web[0])[::4]:
                labels = near_labels(web, posts)
                for one, other in itertools.combinations_with_replacement(range(web[0]), 2):
                    found = near_told(labels[one], labels[other])
                    self.assertEqual(found is None, rows[one][other] is None)
                    if found is not None:
                        self.assertTrue(rows[one][other] <= found <= 3 * rows[one][other], (web, posts, one, other))


class Kept(unittest.TestCase):
    def test_labels_are_those_of_the_web_as_it_is(self):
        for web, order in zip([WEB] + list(great_webs()), [ORDER] + list(great_orders())):
            keeper = Keeper(web, order)
            for k, (a, b, long) in enumerate(web[1]):
                ahead = keeper.labels_now()
                turned = keeper.strike(b, a) if k % 3 == 0 else keeper.put(b, a, 1 + (long + 7 * k) % 99)
                asked = labels_by_hand(keeper.web_now(), order)
                self.assertEqual(keeper.labels_now(), asked)
                self.assertEqual(turned, tuple(v for v in range(web[0]) if ahead[v] != asked[v]))


class Parts(unittest.TestCase):
    def test_labels_are_those_of_the_whole_cut_down(self):
        for web, order in webs_with_orders():
            parts = great_parts(web)[::9] if web[0] == 24 else all_places(web[0])
            for places in parts:
                self.assertIs(is_part(web, places), is_part_by_hand(web, places))
                if is_part_by_hand(web, places):
                    found = by_order(part_web(web, places), part_order(order, places))
                    self.assertEqual(found, cut_by_hand(labels_by_hand(web, order), places))
                    self.assertEqual(found, cut_down(by_order(web, order), places))


class Why(unittest.TestCase):
    def test_first_place_between_two_stands_in_both_labels(self):
        for web, order in webs_with_orders():
            labels = by_order(web, order)
            for one, other in itertools.combinations_with_replacement(range(web[0]), 2):
                on = between(web, one, other)
                if on:
                    first = min(on, key=order.index)
                    for place in (one, other):
                        self.assertIn(first, [entry[0] for entry in labels[place]], (web, order, one, other))

    def labels_let_by(self):
        for web, order in webs_with_orders():
            yield web, by_order(web, order)
        for web in (RING, CROSS, ROW):
            for labels in turned_labels(web[0], full_labels(web)):
                if caught(lets_labels, web, labels) is None:
                    yield web, labels

    def test_each_long_is_that_of_a_real_way(self):
        for web, labels in self.labels_let_by():
            entries = [{entry[0]: entry for entry in label} for label in labels]
            for place in range(web[0]):
                for hub, long, up, down in labels[place]:
                    gone = [place]
                    while gone[-1] != hub:
                        gone.append(entries[gone[-1]][hub][2])
                    self.assertEqual(way_length(web, tuple(gone)), long, (web, labels))

    def test_what_is_told_grows_along_no_tie_by_more_than_the_tie(self):
        for web, labels in self.labels_let_by():
            rows = [[told_by_hand(one, other) for other in labels] for one in labels]
            for (v, w), long in joined_by_hand(web).items():
                for row in rows:
                    self.assertEqual(row[v] is None, row[w] is None)
                    if row[v] is not None:
                        self.assertLessEqual(row[w], row[v] + long)


class Throughout(unittest.TestCase):
    def test_what_was_told_may_be_handed_in_again(self):
        desk = Desk(web_lines(WEB))
        desk.say("put 4 6 2")
        web = read_web(desk.say("web").split("; "))
        labels = read_labels([desk.say(f"label {place}") for place in range(7)])
        self.assertEqual(labels, by_order(web, tuple(range(7))))
        self.assertIs(lets_labels(web, labels), True)
        keeper = Keeper(web, plan_order(parted_plan(web, ORDER)))
        self.assertEqual(keeper.put(4, 6, 2), ())
        gone = walk(keeper.labels_now(), 0, 5)
        self.assertEqual(way_length(web, tuple(gone)), keeper.length_of(0, 5))
        self.assertEqual([own_place(keeper.labels_now()[place]) for place in gone], gone)
        self.assertIs(is_part(web, between(web, 0, 5)), True)
        part = part_web(web, between(web, 0, 5))
        self.assertEqual(read_web(web_lines(part)), part)
        tree = read_web(web_lines(row_tree(24)))
        self.assertIs(lets_plan(tree, tree_plan(tree)), True)

    def test_fields_of_refusals(self):
        for refusal, asked in [
            (caught(lets_labels, ROW, by_order(ROW, (2, 1, 0))[::-1]), (NoLabels, "own", 0)),
            (caught(lets_least, ROW, ((0, 1, 2), (6, 3, 2, 1, 3, 1, 1, 0))), (NoLeast, "step", (0, 1))),
            (caught(lets_plan, ROW, ((0,), (((1,), ()), ((2,), ())))), (NoPlan, "tie", (1, 2))),
        ]:
            self.assertEqual(with_kinds((refusal.word, refusal.at)), with_kinds(asked[1:]))
            self.assertIs(type(refusal), asked[0])
        refusal = caught(read_web, ["web 3", "tie 0 3 1"])
        self.assertEqual((type(refusal), refusal.line, refusal.word), (NoText, 1, 2))
        self.assertIs(type(caught(part_web, ROW, (0, 2))), NoPart)

    def test_lists_told_are_the_asker_s_own(self):
        labels = full_labels(ROW)
        lists = [
            lambda: walk(labels, 0, 2), lambda: can_go(labels), lambda: label_lines(labels), lambda: web_lines(ROW),
        ]
        for deed in lists:
            first = deed()
            kept = copy.deepcopy(first)
            first.clear()
            second = deed()
            self.assertEqual(with_kinds(second), with_kinds(kept))
            second.append(second[0])
            self.assertEqual(with_kinds(deed()), with_kinds(kept))


if __name__ == "__main__":
    unittest.main()
