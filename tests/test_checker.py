import copy
import itertools
import unittest

from by_hand import (
    all_orders, fault_by_hand, full_labels, great_orders, great_webs, joined_by_hand, labels_by_hand, lengths_by_hand,
    nested, own, put_in, small_webs, turned_labels, with_kinds,
)
from checked import Checked
from labelways.checker import lets_labels
from labelways.errors import NoLabels
from labelways.labels import next_step, told, walk
from labelways.orders import by_order

PAIR = (2, ((0, 1, 5),))
ROW = (3, ((0, 1, 2), (1, 2, 3)))
# A tie of 9 beside a way of 2.
BENT = (3, ((0, 1, 1), (0, 2, 9), (1, 2, 1)))
RING = (4, ((0, 1, 1), (0, 3, 1), (1, 2, 1), (2, 3, 1)))
# 0 to 3 has two ways of 5, by 1 and by 2; 4 hangs on 3; 5 and 6 lie apart.
WEB = (7, ((0, 1, 2), (0, 2, 1), (0, 3, 6), (1, 3, 3), (2, 3, 4), (3, 4, 10), (5, 6, 8)))
PARTED = (4, ((0, 2, 1), (1, 3, 2)))


class CheckedLabels(Checked):
    checker = staticmethod(lets_labels)
    refusal = NoLabels

    def assertAsByHand(self, web, labels):
        """Whether it is to let by comes back."""
        return self.assertAnswer(web, labels, fault_by_hand(web, labels)) is None

    def assertTellsTheWeb(self, web, labels):
        rows = lengths_by_hand(web)
        ties = joined_by_hand(web)
        for a, b in itertools.product(range(web[0]), repeat=2):
            self.assertEqual(told(labels[a], labels[b]), rows[a][b], (web, labels, a, b))
            gone = walk(labels, a, b)
            if rows[a][b] is None:
                self.assertEqual(gone, [])
                self.assertIsNone(next_step(labels[a], labels[b]))
            else:
                self.assertEqual((gone[0], gone[-1]), (a, b))
                self.assertEqual(sum(ties[step] for step in zip(gone, gone[1:])), rows[a][b], (web, labels, gone))


class LetBy(CheckedLabels):
    def test_one_place_and_no_tie(self):
        self.assertLetBy((1, ()), ((own(0),),))
        for n in range(1, 25):
            self.assertLetBy((n, ()), tuple((own(k),) for k in range(n)))

    def test_pair(self):
        self.assertLetBy(PAIR, ((own(0),), ((0, 5, 0, 1), own(1))))
        self.assertLetBy(PAIR, ((own(0), (1, 5, 1, 0)), (own(1),)))
        self.assertLetBy(PAIR, ((own(0), (1, 5, 1, 0)), ((0, 5, 0, 1), own(1))))

    def test_labels_by_each_order(self):
        for web in (ROW, BENT, RING, PARTED):
            for order in all_orders(web[0]):
                self.assertLetBy(web, by_order(web, order))

    def test_labels_by_an_order_of_every_small_web(self):
        for web, order in zip(small_webs(), itertools.cycle(all_orders(4))):
            self.assertLetBy(web, by_order(web, order))

    def test_labels_by_orders_of_great_webs(self):
        for web in great_webs():
            for order in great_orders():
                labels = by_order(web, order)
                self.assertLetBy(web, labels)
            self.assertTellsTheWeb(web, labels)

    def test_labels_of_webs_of_every_size(self):
        for n in range(1, 25):
            ties = [(a, b, 1 + (7 * a + 5 * b) % 99) for a, b in itertools.combinations(range(n), 2) if (a + b) % 5 < 2]
            web = (n, tuple(ties[:60]))
            order = tuple(sorted(range(n), key=lambda place: (place * 7 % 5, place)))
            labels = by_order(web, order)
            self.assertLetBy(web, labels)
            self.assertTellsTheWeb(web, labels)


class LetByThoughByNoOrder(CheckedLabels):
    def check(self, web, labels):
        for order in all_orders(web[0]):
            self.assertNotEqual(labels, by_order(web, order))
        self.assertLetBy(web, labels)
        self.assertTellsTheWeb(web, labels)

    def test_each_place_a_hub_of_each(self):
        for web in (PAIR, ROW, BENT, RING, PARTED):
            self.check(web, full_labels(web))

    def test_of_great_webs(self):
        for web in great_webs():
            labels = full_labels(web)
            self.assertLetBy(web, labels)
            self.assertTellsTheWeb(web, labels)

    def test_ups_and_downs_that_are_not_the_least(self):
        self.check(RING, (
            (own(0),),
            ((0, 1, 0, 1), own(1), (2, 1, 2, 1), (3, 2, 2, 2)),
            ((0, 2, 3, 3), own(2), (3, 1, 3, 2)),
            ((0, 1, 0, 3), own(3)),
        ))

    def test_long_that_is_greater_than_the_length(self):
        # The entry of hub 2 in the label of 0 goes by the tie of 9 and stands in no least sum.
        self.check(BENT, (
            (own(0), (1, 1, 1, 0), (2, 9, 2, 0)),
            (own(1),),
            ((1, 1, 1, 2), own(2)),
        ))
        self.check(BENT, (
            (own(0), (1, 1, 1, 0)),
            (own(1),),
            ((0, 9, 0, 2), (1, 1, 1, 2), own(2)),
        ))


class Shape(CheckedLabels):
    def test_things_of_other_kinds(self):
        things = [None, True, False, 0, 1, 3, -1, 10 ** 39, "", "label", "x" * 2000, (), [], (None,), [[]], ((),)]
        things += [(own(0),), own(0), ((), (), ()), [[], [], []], (None, None, None), ("", "", ""), (0, 0, 0)]
        things += [nested(tuple, 60), nested(list, 60), (own(0),) * 100000, [0] * 100000]
        for thing in things:
            self.assertFault(ROW, thing, "shape", None)

    def test_labels_turned_in_their_kinds(self):
        labels = by_order(ROW, (1, 0, 2))
        self.assertLetBy(ROW, labels)
        self.assertFault(ROW, list(labels), "shape", None)
        for k in range(3):
            self.assertFault(ROW, labels[:k] + (list(labels[k]),) + labels[k + 1:], "shape", None)
            for m, entry in enumerate(labels[k]):
                wrong = [list(entry), entry[:3], entry + (None,), (), None]
                for part in range(4):
                    for thing in (True, False, -1, 3, "0", (entry[part],), [entry[part]], "", (), []):
                        # A long of 3 can stand where there is another one.
                        if entry[part] != thing and not (part == 1 and thing == 3 and entry[1] > 0):
                            wrong.append(entry[:part] + (thing,) + entry[part + 1:])
                wrong.append((entry[0], bool(entry[1]), entry[2], entry[3]))
                wrong.append((bool(entry[0]), entry[1], entry[2], entry[3]))
                wrong.append((entry[0], 0, 0, 0))
                wrong.append((entry[0], 1, None, None))
                for thing in wrong:
                    label = labels[k][:m] + (thing,) + labels[k][m + 1:]
                    self.assertFault(ROW, labels[:k] + (label,) + labels[k + 1:], "shape", None)
        self.assertFault(ROW, labels[:2] + (labels[2][::-1],), "shape", None)
        self.assertFault(ROW, labels[:2] + ((),), "shape", None)
        self.assertFault(ROW, labels[:2] + (((1, 3, 1, 2),),), "shape", None)
        self.assertFault(ROW, labels[:2] + (labels[2] + (own(2),),), "shape", None)

    def test_as_many_as_the_web_has_places(self):
        labels = by_order(ROW, (1, 0, 2))
        self.assertFault(ROW, labels[:2], "shape", None)
        self.assertFault(ROW, labels + labels[2:], "shape", None)
        self.assertFault((4, ROW[1]), labels, "shape", None)
        self.assertFault(PAIR, labels, "shape", None)
        self.assertFault(PAIR, ((own(0),), (own(1), (2, 1, 0, 0))), "shape", None)

    def test_ahead_of_all(self):
        # The own places, ups and ties are wrong as well.
        self.assertFault(ROW, ((own(1),), (own(2),), ((0, 7, 2, 2), own(1), (2, 0, None, 1))), "shape", None)


class Own(CheckedLabels):
    def test_least_place(self):
        singles = [(own(k),) for k in range(4)]
        for owns in itertools.product(range(4), repeat=4):
            wrong = [place for place in range(4) if owns[place] != place]
            labels = tuple(singles[k] for k in owns)
            if wrong:
                self.assertFault((4, ()), labels, "own", wrong[0])
            else:
                self.assertLetBy((4, ()), labels)

    def test_own_hub_with_another_long(self):
        self.assertFault(PAIR, ((own(0),), (own(0), (1, 5, 0, 0))), "own", 1)

    def test_labels_that_changed_places(self):
        labels = by_order(ROW, (1, 0, 2))
        for k, owns in [(0, (1, 0, 2)), (1, (0, 2, 1)), (0, (2, 1, 0)), (0, (1, 2, 0)), (2, (0, 1, 1))]:
            self.assertFault(ROW, tuple(labels[place] for place in owns), "own", k)

    def test_ahead_of_up(self):
        self.assertFault(ROW, (((0, 7, 2, 0), own(1)), (own(1),), (own(2),)), "own", 0)
        self.assertFault(ROW, (((0, 0, None, None), (1, 7, 0, 0)), (own(1),), (own(0),)), "own", 2)


class Up(CheckedLabels):
    def test_not_beside(self):
        # 0 and 2 are not beside one another; a place is not beside itself.
        self.assertFault(ROW, ((own(0), (2, 5, 2, 1)), (own(1), (2, 3, 2, 1)), (own(2),)), "up", (0, 2))
        self.assertFault(PAIR, ((own(0),), ((0, 5, 1, 1), own(1))), "up", (1, 0))
        self.assertFault(PARTED, ((own(0), (3, 2, 3, 1)), (own(1),), (own(2),), (own(3),)), "up", (0, 3))

    def test_hub_lacks_there(self):
        self.assertFault(ROW, ((own(0), (2, 5, 1, 1)), (own(1),), (own(2),)), "up", (0, 2))
        self.assertFault(ROW, ((own(0),), (own(1),), ((0, 5, 1, 1), (1, 3, 1, 2), own(2))), "up", (2, 0))

    def test_other_long_there(self):
        for long in (1, 2, 3, 4, 6, 7, 10, 10 ** 39):
            self.assertFault(PAIR, ((own(0),), ((0, long, 0, 1), own(1))), "up", (1, 0))
            right = ((own(0),), ((0, 2, 0, 1), own(1)), ((0, 5, 1, 1), (1, 3, 1, 2), own(2)))
            self.assertLetBy(ROW, right)
            self.assertFault(ROW, put_in(right, 2, ((0, long, 1, 1),) + right[2][1:]), "up", (2, 0))

    def test_two_that_hang_on_one_another(self):
        # Neither entry of hub 2 goes back to the place 2.
        web = (3, ((0, 1, 1),))
        self.assertFault(web, ((own(0), (1, 1, 1, 0), (2, 4, 1, 1)), (own(1), (2, 3, 0, 0)), (own(2),)), "up", (1, 2))
        self.assertFault(web, ((own(0), (1, 1, 1, 0), (2, 4, 1, 1)), (own(1), (2, 5, 0, 0)), (own(2),)), "up", (0, 2))

    def test_first_by_place_then_by_hub(self):
        good = full_labels(RING)
        for first, second in itertools.combinations(itertools.permutations(range(4), 2), 2):
            labels = good
            for v, h in (second, first):
                entries = [(k, 1, v, down) if k == h else (k, long, up, down) for k, long, up, down in labels[v]]
                labels = put_in(labels, v, entries)
            self.assertFault(RING, labels, "up", first)

    def test_ahead_of_tie_and_down(self):
        self.assertFault(PAIR, ((own(0),), ((0, 4, 0, 0), own(1))), "up", (1, 0))
        # At an entry of 0 the down is wrong, at one of 2 the up; by the word, not the place, the up is told.
        labels = ((own(0), (1, 2, 1, 1)), (own(1),), ((1, 3, 0, 2), own(2)))
        self.assertFault(ROW, labels, "up", (2, 1))
        # Nothing tells a length between 0 and 1, too.
        self.assertFault(ROW, ((own(0),), (own(1),), ((1, 4, 1, 2), own(2))), "up", (2, 1))


class Tie(CheckedLabels):
    def test_none_told(self):
        self.assertFault(PAIR, ((own(0),), (own(1),)), "tie", (0, 0, 1))
        self.assertFault((4, ((2, 3, 1),)), tuple((own(k),) for k in range(4)), "tie", (2, 2, 3))
        # 0 and 1, and 1 and 2, are told, but 0 and 2 are not.
        labels = ((own(0), (1, 2, 1, 0)), (own(1), (2, 3, 2, 1)), (own(2),))
        self.assertFault(ROW, labels, "tie", (0, 1, 2))

    def test_more_told_than_the_tie_lets(self):
        labels = ((own(0),), ((0, 1, 0, 1), own(1)), ((0, 9, 0, 2), (1, 1, 1, 2), own(2)))
        self.assertFault(BENT, labels, "tie", (0, 1, 2))
        # From 2 to 0 all ties are kept to, from 0 by 1 to 2 it is 9 and not 2.
        labels = ((own(0), (1, 1, 1, 0), (2, 9, 2, 0)), (own(1), (2, 1, 2, 1)), (own(2),))
        self.assertFault(BENT, labels, "tie", (0, 1, 2))

    def test_just_as_much_is_let_by(self):
        for long in (1, 2):
            web = (3, ((0, 1, 1), (0, 2, 2), (1, 2, long)))
            self.assertLetBy(web, ((own(0),), ((0, 1, 0, 1), own(1)), ((0, 2, 0, 2), (1, long, 1, 2), own(2))))

    def test_first_rising(self):
        # Told is nothing but each place with itself.
        for web in (ROW, BENT, RING, PARTED, WEB):
            labels = tuple((own(k),) for k in range(web[0]))
            a, b = web[1][0][:2]
            self.assertFault(web, labels, "tie", (a, a, b))
        # Of u 0 and v 3 the least w is told, though a higher one is at fault, too.
        web = (4, ((0, 3, 1), (1, 3, 1), (2, 3, 1)))
        labels = ((own(0), (3, 1, 3, 0)), (own(1),), (own(2),), (own(3),))
        self.assertFault(web, labels, "tie", (0, 3, 1))
        labels = ((own(0),), (own(1), (3, 1, 3, 1)), (own(2),), (own(3),))
        self.assertFault(web, labels, "tie", (0, 0, 3))

    def test_place_v_above_w(self):
        web = (3, ((0, 1, 1), (0, 2, 1)))
        labels = ((own(0),), (own(1),), ((0, 1, 0, 2), own(2)))
        self.assertFault(web, labels, "tie", (0, 0, 1))
        web = (3, ((0, 2, 1), (1, 2, 1)))
        labels = ((own(0), (2, 1, 2, 0)), (own(1),), (own(2),))
        self.assertFault(web, labels, "tie", (0, 2, 1))

    def test_ahead_of_down(self):
        self.assertFault(ROW, ((own(0), (1, 2, 1, 1)), (own(1),), (own(2),)), "tie", (0, 1, 2))
        self.assertFault(ROW, ((own(0), (1, 2, 1, 2)), (own(1), (2, 3, 2, 1)), (own(2),)), "tie", (0, 1, 2))


class Down(CheckedLabels):
    def test_not_beside_the_hub(self):
        labels = by_order(ROW, (0, 1, 2))
        self.assertEqual(labels[2][0], (0, 5, 1, 1))
        for down in (0, 2):
            self.assertFault(ROW, put_in(labels, 2, ((0, 5, 1, down),) + labels[2][1:]), "down", (2, 0))
        self.assertFault(PAIR, ((own(0),), ((0, 5, 0, 0), own(1))), "down", (1, 0))

    def test_other_length_told(self):
        # 2 is beside 1, but a way from 1 to 0 doesn't begin there.
        labels = by_order(ROW, (1, 0, 2))
        self.assertFault(ROW, put_in(labels, 0, (own(0), (1, 2, 1, 2))), "down", (0, 1))
        # By the tie of 9 the way would be longer than the long.
        labels = ((own(0),), ((0, 1, 0, 1), own(1)), ((0, 2, 1, 2), (1, 1, 1, 2), own(2)))
        self.assertFault(BENT, labels, "down", (2, 0))

    def test_greater_long_whose_down_leads_on_a_shorter_way(self):
        labels = ((own(0), (1, 1, 1, 0), (2, 9, 2, 1)), (own(1),), ((1, 1, 1, 2), own(2)))
        self.assertFault(BENT, labels, "down", (0, 2))

    def test_first_by_place_then_by_hub(self):
        good = full_labels(RING)
        for first, second in itertools.combinations(itertools.permutations(range(4), 2), 2):
            labels = good
            for v, h in (second, first):
                entries = [(k, long, up, h) if k == h else (k, long, up, down) for k, long, up, down in labels[v]]
                labels = put_in(labels, v, entries)
            self.assertFault(RING, labels, "down", first)


class EachWord(CheckedLabels):
    def test_turned_in_one_entry(self):
        """As told by hand, and what is let by tells the web, whoever wrote it."""
        let_by = 0
        words = {}
        for web in (PAIR, ROW, BENT, RING, PARTED, (3, ((0, 1, 1), (0, 2, 2), (1, 2, 1)))):
            for labels in [full_labels(web)] + [labels_by_hand(web, order) for order in all_orders(web[0])[::3]]:
                for turned in turned_labels(web[0], labels):
                    fault = fault_by_hand(web, turned)
                    words[fault and fault[0]] = True
                    if self.assertAsByHand(web, turned):
                        let_by += 1
                        self.assertTellsTheWeb(web, turned)
        self.assertGreater(let_by, 100)
        self.assertEqual(set(words), {None, "up", "tie", "down"})

    def test_turned_in_two_entries(self):
        for web, order in [(BENT, (1, 0, 2)), (ROW, (0, 1, 2)), ((3, ((0, 1, 1), (0, 2, 2), (1, 2, 1))), (2, 0, 1))]:
            once = list(turned_labels(3, labels_by_hand(web, order)))
            for labels in once[::5]:
                for turned in itertools.islice(turned_labels(3, labels), 0, None, 3):
                    if self.assertAsByHand(web, turned):
                        self.assertTellsTheWeb(web, turned)

    def test_labels_of_another_web(self):
        webs = list(itertools.islice(small_webs(), 0, None, 61))
        for web, other in itertools.product(webs[::3], webs[::4]):
            labels = labels_by_hand(other, (2, 0, 3, 1))
            if self.assertAsByHand(web, labels):
                self.assertEqual(lengths_by_hand(web), lengths_by_hand(other))

    def test_great_webs_turned(self):
        for web, order in zip(itertools.islice(great_webs(), 4), great_orders()):
            labels = by_order(web, order)
            for v in range(0, 24, 5):
                for k, (h, long, up, down) in enumerate(labels[v]):
                    rest = labels[v][:k] + labels[v][k + 1:]
                    if long > 0:
                        turned = [rest, rest + ((h, long + 1, up, down),), rest + ((h, long, (up + 1) % 24, down),)]
                        for label in turned + [rest + ((h, long, up, (down + 1) % 24),)]:
                            self.assertAsByHand(web, put_in(labels, v, label))


class HandedIn(CheckedLabels):
    def test_stays_as_it_was(self):
        labels = by_order(WEB, (3, 6, 0, 5, 1, 2, 4))
        for thing in (labels, list(labels), [list(label) for label in labels], labels[::-1], full_labels(WEB), [[], 1]):
            ahead = copy.deepcopy((WEB, thing))
            try:
                lets_labels(WEB, thing)
            except NoLabels:
                pass
            self.assertEqual(with_kinds((WEB, thing)), with_kinds(ahead))

    def test_nothing_hangs_on_what_was_asked(self):
        labels = by_order(ROW, (1, 0, 2))
        for k in range(3):
            self.assertLetBy(ROW, labels)
            self.assertFault(ROW, labels[::-1], "own", 0)
            self.assertFault(ROW, None, "shape", None)

    def test_great_longs(self):
        great = 10 ** 40 - 1
        self.assertFault(PAIR, ((own(0),), ((0, great, 0, 1), own(1))), "up", (1, 0))

    def test_somewhat_beyond_the_bounds(self):
        web = (26, tuple((k, k + 1, 150) for k in range(25)))
        self.assertLetBy(web, full_labels(web))


if __name__ == "__main__":
    unittest.main()
