import copy
import itertools
import unittest

from by_hand import (
    full_labels, great_orders, great_webs, labels_by_hand, lengths_by_hand, nested, own, told_by_hand, with_kinds,
)
from labelways.labels import are_labels, is_label, next_step, own_place, told, told_hub, walk

# A label of five places whose own place is 2; of no web that is named.
LABEL = ((0, 3, 1, 2), (2, 0, None, None), (4, 7, 2, 3))
# A ring of four ties of 1: 0 and 2, and 1 and 3, are joined by two shortest ways each.
RING = (4, ((0, 1, 1), (0, 3, 1), (1, 2, 1), (2, 3, 1)))
# 0 to 3 has two ways of 5, by 1 and by 2; 4 hangs on 3; 5 and 6 lie apart.
WEB = (7, ((0, 1, 2), (0, 2, 1), (0, 3, 6), (1, 3, 3), (2, 3, 4), (3, 4, 10), (5, 6, 8)))
WRONG = [None, True, False, "", "0", "label", (), [], (0,), [0], (None,), ((),), ((0, 0, None, None),)]


class IsLabel(unittest.TestCase):
    def assertLabel(self, n, thing):
        self.assertIs(is_label(n, thing), True, (n, repr(thing)[:200]))

    def assertNoLabel(self, n, thing):
        self.assertIs(is_label(n, thing), False, (n, repr(thing)[:200]))

    def with_part(self, entry, part, thing):
        """LABEL with something else as one part of one entry."""
        parts = list(LABEL[entry])
        parts[part] = thing
        return LABEL[:entry] + (tuple(parts),) + LABEL[entry + 1:]

    def test_ordinary(self):
        self.assertLabel(5, LABEL)
        self.assertLabel(24, LABEL)
        self.assertLabel(5, LABEL[1:])
        self.assertLabel(5, LABEL[:2])
        self.assertLabel(24, tuple(own(k) if k == 11 else (k, k + 1, 23, 0) for k in range(24)))

    def test_own_entry_alone(self):
        for n in range(1, 25):
            for place in range(n):
                self.assertLabel(n, (own(place),))
            self.assertNoLabel(n, (own(n),))
            self.assertNoLabel(n, (own(-1),))

    def test_own_entry_may_stand_anywhere(self):
        for place in range(3):
            label = [(hub, 5, 0, 0) for hub in range(3)]
            label[place] = own(place)
            self.assertLabel(3, tuple(label))

    def test_void(self):
        for n in (1, 2, 24):
            self.assertNoLabel(n, ())
            self.assertNoLabel(n, [])

    def test_up_and_down_may_be_any_places(self):
        for up in range(5):
            for down in range(5):
                self.assertLabel(5, (own(0), (3, 1, up, down)))

    def test_as_many_places_as_are_named(self):
        self.assertNoLabel(4, LABEL)
        self.assertNoLabel(4, (own(0), (1, 1, 4, 0)))
        self.assertNoLabel(4, (own(0), (1, 1, 0, 4)))
        self.assertLabel(5, (own(0), (1, 1, 4, 0)))
        self.assertLabel(5, (own(0), (1, 1, 0, 4)))

    def test_places_out_of_bounds(self):
        for thing in (-1, -5, 5, 6, 10 ** 39, -(10 ** 39)):
            self.assertNoLabel(5, ((0, 0, None, None), (thing, 1, 0, 0)))
            for entry, part in [(0, 0), (0, 2), (0, 3), (1, 0), (2, 0), (2, 2), (2, 3)]:
                self.assertNoLabel(5, self.with_part(entry, part, thing))

    def test_long(self):
        for long in (1, 2, 99, 100, 10 ** 12, 10 ** 40 - 1):
            self.assertLabel(5, self.with_part(0, 1, long))
            self.assertLabel(5, self.with_part(2, 1, long))
        for long in (-1, -3, -(10 ** 39)):
            for entry in range(3):
                self.assertNoLabel(5, self.with_part(entry, 1, long))
            self.assertNoLabel(5, (own(0), (1, long, 1, 1)))

    def test_just_one_long_is_0(self):
        self.assertNoLabel(5, LABEL[:1])
        self.assertNoLabel(5, LABEL[::2])
        self.assertNoLabel(5, (own(0), own(1)))
        self.assertNoLabel(5, (own(0), own(2), (3, 1, 1, 1)))
        self.assertNoLabel(5, (own(0), own(1), own(2)))
        self.assertNoLabel(5, ((0, 1, 0, 0), (2, 1, 0, 0)))

    def test_of_the_long_0_up_and_down_are_none(self):
        for thing in (0, 2, 4, -1, 5, False, "", "-", (), []):
            self.assertNoLabel(5, self.with_part(1, 2, thing))
            self.assertNoLabel(5, self.with_part(1, 3, thing))
        self.assertNoLabel(5, ((2, 0, 2, 2),))
        self.assertNoLabel(5, (own(0), (2, 0, 1, 1)))

    def test_of_other_longs_up_and_down_are_places(self):
        self.assertNoLabel(5, (own(0), (2, 3, None, None)))
        for entry in (0, 2):
            for part in (2, 3):
                for thing in WRONG:
                    self.assertNoLabel(5, self.with_part(entry, part, thing))
        self.assertNoLabel(5, ((2, 3, None, None),))

    def test_hubs_rise(self):
        for entries in itertools.permutations(LABEL):
            if entries != LABEL:
                self.assertNoLabel(5, entries)
        self.assertNoLabel(5, (own(0), (1, 1, 1, 1), (1, 1, 1, 1)))
        self.assertNoLabel(5, (own(0), (1, 1, 1, 1), (1, 2, 1, 1)))
        self.assertNoLabel(5, (own(1), (1, 2, 1, 1)))
        self.assertNoLabel(5, (own(0), (2, 1, 1, 1), (1, 2, 1, 1)))
        # Whole entries or longs would rise here, but the hubs don't.
        self.assertNoLabel(5, (own(1), (0, 2, 1, 1)))

    def test_truth_is_no_number(self):
        for truth in (True, False):
            for entry in range(3):
                for part in range(4):
                    self.assertNoLabel(5, self.with_part(entry, part, truth))
        self.assertNoLabel(2, ((0, False, None, None),))
        self.assertNoLabel(2, ((False, 0, None, None),))
        self.assertNoLabel(2, ((True, 0, None, None),))
        for entry in [(1, True, 0, 0), (True, 1, 0, 0), (1, 1, True, 0), (1, 1, 0, False)]:
            self.assertNoLabel(2, (own(0), entry))

    def test_list_is_no_tuple(self):
        self.assertNoLabel(5, list(LABEL))
        self.assertNoLabel(5, [own(2)])
        self.assertNoLabel(5, ([2, 0, None, None],))
        for k in range(3):
            self.assertNoLabel(5, LABEL[:k] + (list(LABEL[k]),) + LABEL[k + 1:])
        self.assertNoLabel(5, [list(entry) for entry in LABEL])

    def test_how_many_parts_an_entry_has(self):
        for entry in [(), (0,), (0, 0), (0, 0, None), (0, 0, None, None, None), (0, 0, None, None, 0)]:
            self.assertNoLabel(5, (entry,))
            self.assertNoLabel(5, (entry, (1, 1, 0, 0)))
        for entry in [(4, 7), (4, 7, 2), (4, 7, 2, 3, 3), (4, 7, 2, 3, None)]:
            self.assertNoLabel(5, LABEL[:2] + (entry,))
        self.assertNoLabel(5, own(2))
        self.assertNoLabel(5, (LABEL,))
        self.assertNoLabel(5, (LABEL, LABEL))

    def test_wrong_things_at_any_depth(self):
        for thing in WRONG[:-1] + [0, 1, -1, 5, 10 ** 39]:
            self.assertNoLabel(5, thing)
            self.assertNoLabel(5, (thing,))
            self.assertNoLabel(5, LABEL + (thing,))
            self.assertNoLabel(5, (thing,) + LABEL)
        for thing in WRONG:
            for entry, part in itertools.product(range(3), range(4)):
                if LABEL[entry][part] is not None or thing is not None:
                    self.assertNoLabel(5, self.with_part(entry, part, thing))

    def test_deep_and_long_things(self):
        for kind in (tuple, list):
            self.assertNoLabel(5, nested(kind, 60))
            self.assertNoLabel(5, (nested(kind, 59),))
            self.assertNoLabel(5, (own(0), (1, nested(kind, 58), 0, 0)))
            self.assertNoLabel(5, kind([own(0)]) * 100000)
            self.assertNoLabel(5, (kind([0]) * 100000,))
        self.assertNoLabel(5, "x" * 2000)
        self.assertNoLabel(5, tuple((hub, hub, 0, 0) if hub else own(0) for hub in range(30000)))

    def test_all_of_two_places(self):
        """Of everything short made of a few parts just these are labels."""
        fars = [(hub, 1, up, down) for hub in (0, 1) for up in (0, 1) for down in (0, 1)]
        right = [(own(0),), (own(1),)]
        right += [(own(0), far) for far in fars if far[0] == 1] + [(far, own(1)) for far in fars if far[0] == 0]
        places = (None, 0, 1, 2)
        entries = list(itertools.product((-1, 0, 1, 2), (-1, 0, 1), places, places))
        for count in (1, 2):
            for thing in itertools.product(entries, repeat=count):
                self.assertIs(is_label(2, thing), thing in right, thing)

    def test_more_places_than_a_web_has(self):
        self.assertLabel(26, (own(24), (25, 1, 24, 24)))
        self.assertNoLabel(25, (own(24), (25, 1, 24, 24)))


class AreLabels(unittest.TestCase):
    def assertLabels(self, n, thing):
        self.assertIs(are_labels(n, thing), True, (n, repr(thing)[:200]))

    def assertNoLabels(self, n, thing):
        self.assertIs(are_labels(n, thing), False, (n, repr(thing)[:200]))

    def test_ordinary(self):
        self.assertLabels(1, ((own(0),),))
        self.assertLabels(2, ((own(0),), ((0, 1, 0, 1), own(1))))
        self.assertLabels(4, full_labels(RING))
        self.assertLabels(24, tuple((own(k),) for k in range(24)))

    def test_whatever_their_own_places(self):
        self.assertLabels(5, (LABEL,) * 5)
        self.assertLabels(2, ((own(1),), (own(0),)))
        self.assertLabels(3, ((own(2),), (own(2),), (own(0), (2, 9, 1, 1))))

    def test_as_many_as_places(self):
        for count in (0, 1, 4, 6, 24):
            self.assertNoLabels(5, (LABEL,) * count)
        self.assertNoLabels(1, ())
        self.assertNoLabels(1, ((own(0),), (own(0),)))
        self.assertNoLabels(5, LABEL)

    def test_each_of_so_many_places(self):
        self.assertNoLabels(4, (LABEL,) * 4)
        self.assertNoLabels(2, ((own(0),), (own(2),)))
        self.assertNoLabels(2, ((own(0),), (own(1), (2, 1, 1, 1))))
        self.assertNoLabels(2, ((own(0),), ((0, 1, 2, 0), own(1))))

    def test_one_wrong_among_them(self):
        for k in range(5):
            for thing in WRONG[:-1] + [0, list(LABEL), LABEL[:1], LABEL[::-1], LABEL + (own(4),), own(2)]:
                self.assertNoLabels(5, (LABEL,) * k + (thing,) + (LABEL,) * (4 - k))

    def test_list_is_no_tuple(self):
        self.assertNoLabels(5, [LABEL] * 5)
        self.assertNoLabels(1, [(own(0),)])
        self.assertNoLabels(1, ([own(0)],))
        self.assertNoLabels(1, ([[0, 0, None, None]],))
        self.assertNoLabels(1, (([0, 0, None, None],),))

    def test_truth_is_no_number(self):
        self.assertNoLabels(1, (((False, 0, None, None),),))
        self.assertNoLabels(1, (((0, False, None, None),),))
        self.assertNoLabels(2, ((own(0),), ((0, True, 0, 1), own(1))))

    def test_wrong_things(self):
        for thing in WRONG + [0, 1, 24, -1, 10 ** 39, "x" * 2000, nested(tuple, 60), nested(list, 60)]:
            self.assertNoLabels(1, thing)
            self.assertNoLabels(2, thing)
            self.assertNoLabels(2, ((own(0),), thing, (own(1),)))

    def test_long_things(self):
        self.assertNoLabels(5, (LABEL,) * 100000)
        self.assertNoLabels(5, [LABEL] * 100000)
        self.assertNoLabels(2, ((own(0),), (own(1),) * 100000))

    def test_stays_as_it_was(self):
        for thing in [[[[0, 0, None, None]]], ([(0, 0, None, None)],), [LABEL, [True, None]], (LABEL,) * 5]:
            ahead = copy.deepcopy(thing)
            for n in (1, 2, 5):
                are_labels(n, thing)
                is_label(n, thing)
            self.assertEqual(with_kinds(thing), with_kinds(ahead))


class OwnPlace(unittest.TestCase):
    def test_hub_of_the_long_0(self):
        self.assertEqual(own_place(LABEL), 2)
        for place in range(24):
            self.assertEqual(own_place((own(place),)), place)
        for place in range(4):
            label = [(hub, 4 - hub, 3, 3) for hub in range(4)]
            label[place] = own(place)
            self.assertEqual(own_place(tuple(label)), place)


class Told(unittest.TestCase):
    def check(self, one, other, length, hub):
        self.assertEqual((told(one, other), told_hub(one, other)), (length, hub), (one, other))
        self.assertEqual((told(other, one), told_hub(other, one)), (length, hub), (other, one))

    def test_least_sum(self):
        one = (own(0), (2, 5, 1, 1), (3, 4, 2, 2))
        self.check(one, (own(1), (2, 5, 0, 0), (3, 5, 0, 0)), 9, 3)
        self.check(one, (own(1), (2, 3, 0, 0), (3, 5, 0, 0)), 8, 2)
        self.check(one, ((0, 6, 3, 3), own(1), (2, 3, 0, 0)), 6, 0)
        # The least of either long alone doesn't stand in the least sum.
        one = ((0, 1, 4, 4), (1, 5, 4, 4), (2, 9, 4, 4), own(4))
        self.check(one, ((0, 9, 3, 3), (1, 4, 3, 3), (2, 1, 3, 3), own(3)), 9, 1)

    def test_least_hub_of_several(self):
        one = ((1, 5, 4, 4), (2, 4, 4, 4), (3, 1, 4, 4), own(4))
        self.check(one, ((1, 2, 5, 5), (2, 3, 5, 5), (3, 6, 5, 5), own(5)), 7, 1)
        self.check(one, ((1, 3, 5, 5), (2, 3, 5, 5), (3, 6, 5, 5), own(5)), 7, 2)
        self.check(one, ((1, 2, 5, 5), (2, 4, 5, 5), (3, 6, 5, 5), own(5)), 7, 1)
        self.check(one, ((1, 3, 5, 5), (2, 4, 5, 5), (3, 6, 5, 5), own(5)), 7, 3)

    def test_no_hub_in_both(self):
        self.check((own(0),), (own(1),), None, None)
        self.check((own(0), (2, 1, 2, 0)), (own(1), (3, 1, 3, 1)), None, None)
        self.check(LABEL, (own(1), (3, 7, 2, 3)), None, None)

    def test_own_place_as_hub(self):
        self.check((own(0),), ((0, 9, 1, 1), own(3)), 9, 0)
        self.check((own(3),), ((0, 9, 1, 1), (3, 4, 1, 1), own(5)), 4, 3)
        # Each own place is a hub of the other one.
        self.check((own(0), (1, 3, 1, 0)), ((0, 4, 0, 1), own(1)), 3, 1)
        self.check((own(0), (1, 4, 1, 0)), ((0, 4, 0, 1), own(1)), 4, 0)

    def test_of_one_label_twice(self):
        self.check(LABEL, LABEL, 0, 2)
        self.check((own(0),), (own(0),), 0, 0)

    def test_both_own_places_one(self):
        self.check(LABEL, (own(2),), 0, 2)
        self.check(LABEL, ((0, 1, 1, 1), own(2), (3, 1, 1, 1)), 0, 2)

    def test_labels_of_unlike_counts_of_places(self):
        one = (own(0), (1, 2, 1, 1))
        other = ((1, 3, 22, 22), (20, 1, 20, 20), own(23))
        self.check(one, other, 5, 1)

    def test_great_longs(self):
        great = 10 ** 40 - 1
        self.check((own(0), (2, great, 1, 1)), (own(1), (2, great, 1, 1)), 2 * great, 2)
        self.check((own(0), (2, great, 1, 1), (3, great, 1, 1)), (own(1), (2, 2, 1, 1), (3, 1, 1, 1)), great + 1, 3)

    def test_small_labels_of_no_web(self):
        """Each two labels of three places with longs 1 to 3."""
        labels = []
        for place in range(3):
            others = [hub for hub in range(3) if hub != place]
            for longs in itertools.product((None, 1, 2, 3), repeat=2):
                entries = [(hub, long, 0, 2) for hub, long in zip(others, longs) if long]
                labels.append(tuple(sorted(entries + [own(place)], key=lambda entry: entry[0])))
        for one, other in itertools.product(labels, repeat=2):
            length = told_by_hand(one, other)
            sums = {a[0]: a[1] + b[1] for a in one for b in other if a[0] == b[0]}
            hub = min((h for h in sums if sums[h] == length), default=None)
            self.check(one, other, length, hub)


class NextStep(unittest.TestCase):
    def check(self, one, other, there, back):
        self.assertEqual(next_step(one, other), there, (one, other))
        self.assertEqual(next_step(other, one), back, (other, one))

    def test_up_to_a_hub_of_both(self):
        one = (own(0), (5, 2, 6, 7), (9, 1, 8, 9))
        other = (own(1), (5, 3, 10, 11), (9, 5, 12, 13))
        self.check(one, other, 6, 10)
        other = (own(1), (5, 3, 10, 11), (9, 3, 12, 13))
        self.check(one, other, 8, 12)

    def test_hub_is_an_own_place(self):
        one = (own(2),)
        other = ((2, 5, 6, 7), own(4))
        self.check(one, other, 7, 6)
        one = (own(0), (4, 5, 6, 7))
        other = (own(4),)
        self.check(one, other, 6, 7)

    def test_each_own_place_is_a_hub_of_the_other(self):
        # With one sum the lesser hub is told, and what it says is taken.
        self.check((own(0), (1, 4, 10, 11)), ((0, 4, 12, 13), own(1)), 13, 12)
        self.check((own(0), (1, 3, 10, 11)), ((0, 4, 12, 13), own(1)), 10, 11)
        self.check((own(0), (1, 5, 10, 11)), ((0, 4, 12, 13), own(1)), 13, 12)

    def test_least_hub_ahead_of_the_own_place(self):
        one = ((1, 2, 10, 11), own(3))
        other = ((1, 4, 12, 13), (3, 6, 14, 15), own(5))
        self.check(one, other, 10, 12)
        other = ((1, 5, 12, 13), (3, 6, 14, 15), own(5))
        self.check(one, other, 15, 14)

    def test_own_place_0_is_a_hub_too(self):
        self.check((own(0),), ((0, 1, 2, 3), own(1)), 3, 2)
        self.check((own(0),), ((0, 1, 0, 0), own(1)), 0, 0)

    def test_none_of_one_own_place(self):
        self.check(LABEL, LABEL, None, None)
        self.check(LABEL, (own(2),), None, None)
        self.check(((0, 1, 3, 3), own(2)), ((0, 1, 4, 4), own(2)), None, None)

    def test_none_where_no_hub_is_told(self):
        self.check((own(0),), (own(1),), None, None)
        self.check((own(0), (2, 1, 2, 0)), (own(1), (3, 1, 3, 1)), None, None)


class Walk(unittest.TestCase):
    def check(self, labels, one, other, asked):
        gone = walk(labels, one, other)
        self.assertIs(type(gone), list)
        self.assertEqual(gone, asked, (one, other))

    def test_ring_by_an_order(self):
        labels = labels_by_hand(RING, (3, 0, 1, 2))
        self.check(labels, 0, 2, [0, 3, 2])
        self.check(labels, 2, 0, [2, 3, 0])
        self.check(labels, 1, 3, [1, 0, 3])
        self.check(labels, 3, 1, [3, 0, 1])
        self.check(labels, 0, 1, [0, 1])

    def test_steps_come_from_the_labels(self):
        # Both ways round are shortest; these labels lead by 3, those by an order by 1.
        labels = (
            (own(0),),
            ((0, 1, 0, 1), own(1), (2, 1, 2, 1), (3, 2, 2, 2)),
            ((0, 2, 3, 3), own(2), (3, 1, 3, 2)),
            ((0, 1, 0, 3), own(3)),
        )
        self.check(labels, 0, 2, [0, 3, 2])
        self.check(labels, 2, 0, [2, 3, 0])
        self.check(labels, 1, 3, [1, 0, 3])
        self.check(labels_by_hand(RING, (0, 1, 2, 3)), 0, 2, [0, 1, 2])

    def test_of_a_place_to_itself(self):
        for web in (WEB, RING, (1, ()), (3, ())):
            labels = full_labels(web)
            for place in range(web[0]):
                self.check(labels, place, place, [place])

    def test_none_told(self):
        labels = labels_by_hand(WEB, (6, 5, 4, 3, 2, 1, 0))
        for one in range(5):
            for other in (5, 6):
                self.check(labels, one, other, [])
                self.check(labels, other, one, [])
        self.check(((own(0),), (own(1),)), 0, 1, [])

    def test_long_row(self):
        web = (24, tuple((k, k + 1, 99) for k in range(23)))
        for labels in (full_labels(web), labels_by_hand(web, tuple(range(24)))):
            self.check(labels, 0, 23, list(range(24)))
            self.check(labels, 23, 0, list(range(23, -1, -1)))

    def test_great_webs(self):
        for web, order in zip(great_webs(), itertools.cycle(great_orders())):
            labels = labels_by_hand(web, order)
            rows = lengths_by_hand(web)
            joined = {(a, b): long for x, y, long in web[1] for a, b in ((x, y), (y, x))}
            for one, other in itertools.product(range(0, 24, 3), range(24)):
                gone = walk(labels, one, other)
                if rows[one][other] is None:
                    self.assertEqual(gone, [])
                else:
                    self.assertEqual((gone[0], gone[-1]), (one, other))
                    self.assertEqual(sum(joined[step] for step in zip(gone, gone[1:])), rows[one][other])

    def test_is_the_asker_s_own(self):
        labels = labels_by_hand(RING, (3, 0, 1, 2))
        ahead = copy.deepcopy(labels)
        first = walk(labels, 0, 2)
        kept = list(first)
        walk(labels, 2, 0)
        self.assertEqual(first, kept)
        first.append(9)
        self.check(labels, 0, 2, kept)
        self.assertEqual(with_kinds(labels), with_kinds(ahead))


if __name__ == "__main__":
    unittest.main()
