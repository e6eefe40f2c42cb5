import copy
import itertools
import unittest

from by_hand import (
    great_rings, great_trees, great_webs, joined_by_hand, lengths_by_hand, parts_by_hand, ring_labels_by_hand, ring_of,
    small_webs, with_kinds,
)
from checked import Refusing
from labelways.errors import NoRing
from labelways.rings import ring_labels, ring_step, ring_told
from labelways.webs import is_web


def few_rings():
    """Every seating of three to six places, with longs alike and unlike."""
    for n in range(3, 7):
        for names in itertools.permutations(range(n)):
            yield names, (1,) * n
            yield names, (5, 1, 2, 9, 3, 4)[:n]


class RingLabels(unittest.TestCase):
    def check(self, web, asked):
        self.assertEqual(with_kinds(ring_labels(web)), with_kinds(asked), web)

    def test_three_places(self):
        self.check((3, ((0, 1, 2), (0, 2, 3), (1, 2, 4))), ((0, 9, 1, 2), (2, 9, 2, 0), (6, 9, 0, 1)))
        self.check((3, ((0, 1, 1), (0, 2, 1), (1, 2, 1))), ((0, 3, 1, 2), (1, 3, 2, 0), (2, 3, 0, 1)))

    def test_goes_on_to_the_lesser_number_not_along_the_shorter_tie(self):
        self.check((3, ((0, 1, 99), (0, 2, 1), (1, 2, 50))), ((0, 150, 1, 2), (99, 150, 2, 0), (149, 150, 0, 1)))

    def test_four_places_in_each_seating(self):
        # 0 1 2 3, 0 1 3 2 and 0 2 1 3 are all the goings round that four places have.
        self.check((4, ((0, 1, 1), (0, 3, 8), (1, 2, 2), (2, 3, 4))),
                   ((0, 15, 1, 3), (1, 15, 2, 0), (3, 15, 3, 1), (7, 15, 0, 2)))
        self.check((4, ((0, 1, 1), (0, 2, 8), (1, 3, 2), (2, 3, 4))),
                   ((0, 15, 1, 2), (1, 15, 3, 0), (7, 15, 0, 3), (3, 15, 2, 1)))
        self.check((4, ((0, 2, 1), (0, 3, 8), (1, 2, 2), (1, 3, 4))),
                   ((0, 15, 2, 3), (3, 15, 3, 2), (1, 15, 1, 0), (7, 15, 0, 1)))

    def test_six_places_crosswise(self):
        # Gone round is 0 3 1 5 2 4: to 3, as it is less than 4, though 5 comes ahead of 2.
        web = ring_of((0, 3, 1, 5, 2, 4), (10, 20, 30, 40, 50, 60))
        self.check(web, (
            (0, 210, 3, 4), (30, 210, 5, 3), (100, 210, 4, 5), (10, 210, 1, 0), (150, 210, 0, 2), (60, 210, 2, 1),
        ))

    def test_twenty_four_places(self):
        labels = tuple((99 * k, 2376, (k + 1) % 24, (k + 23) % 24) for k in range(24))
        self.check(ring_of(tuple(range(24)), (99,) * 24), labels)

    def test_each_seating_of_few_places(self):
        for names, longs in few_rings():
            self.check(ring_of(names, longs), ring_labels_by_hand(names, longs))

    def test_rings_of_up_to_24_places(self):
        for names, longs in great_rings():
            web = ring_of(names, longs)
            self.assertIs(is_web(web), True)
            self.check(web, ring_labels_by_hand(names, longs))

    def test_gone_round_by_fore_and_by_back(self):
        for names, longs in great_rings():
            web = ring_of(names, longs)
            labels = ring_labels(web)
            ties = joined_by_hand(web)
            place = 0
            for k in range(web[0]):
                along, whole, fore, back = labels[place]
                self.assertEqual(labels[fore][3], place)
                self.assertEqual(labels[back][2], place)
                self.assertEqual(whole, sum(longs))
                self.assertEqual((along + ties[place, fore]) % whole, labels[fore][0])
                place = fore
            self.assertEqual(place, 0)
            self.assertEqual(labels[0][0], 0)
            self.assertLess(labels[0][2], labels[0][3])

    def test_somewhat_beyond_the_bounds(self):
        names = tuple((7 * k) % 30 for k in range(30))
        self.check(ring_of(names, (150,) * 30), ring_labels_by_hand(names, (150,) * 30))


class ByTwoLabels(unittest.TestCase):
    def check(self, one, other, length, step):
        self.assertEqual(with_kinds(ring_told(one, other)), with_kinds(length), (one, other))
        self.assertEqual(with_kinds(ring_step(one, other)), with_kinds(step), (one, other))

    def test_three_places(self):
        labels = ((0, 9, 1, 2), (2, 9, 2, 0), (6, 9, 0, 1))
        asked = [[(0, None), (2, 1), (3, 2)], [(2, 0), (0, None), (4, 2)], [(3, 0), (4, 1), (0, None)]]
        for one, row in zip(labels, asked):
            for other, (length, step) in zip(labels, row):
                self.check(one, other, length, step)

    def test_just_half_round_goes_on_by_fore(self):
        labels = ((0, 4, 1, 3), (1, 4, 2, 0), (2, 4, 3, 1), (3, 4, 0, 2))
        self.check(labels[0], labels[2], 2, 1)
        self.check(labels[2], labels[0], 2, 3)
        self.check(labels[1], labels[3], 2, 2)
        self.check(labels[3], labels[1], 2, 0)

    def test_just_above_and_below_half(self):
        self.check((0, 100, 4, 7), (49, 100, 5, 6), 49, 4)
        self.check((0, 100, 4, 7), (50, 100, 5, 6), 50, 4)
        self.check((0, 100, 4, 7), (51, 100, 5, 6), 49, 7)
        self.check((51, 100, 5, 6), (0, 100, 4, 7), 49, 5)
        self.check((50, 100, 5, 6), (0, 100, 4, 7), 50, 5)
        self.check((49, 100, 5, 6), (0, 100, 4, 7), 49, 6)
        self.check((0, 99, 4, 7), (49, 99, 5, 6), 49, 4)
        self.check((0, 99, 4, 7), (50, 99, 5, 6), 49, 7)

    def test_behind_the_end_round_to_the_beginning(self):
        self.check((90, 100, 2, 3), (5, 100, 8, 9), 15, 2)
        self.check((5, 100, 8, 9), (90, 100, 2, 3), 15, 9)

    def test_tie_that_is_longer_than_the_way_round(self):
        labels = ring_labels((3, ((0, 1, 99), (0, 2, 1), (1, 2, 1))))
        self.check(labels[0], labels[1], 2, 2)
        self.check(labels[1], labels[0], 2, 2)
        self.check(labels[1], labels[2], 1, 2)
        self.check(labels[2], labels[0], 1, 0)

    def test_label_with_itself(self):
        for label in ((0, 3, 1, 2), (7, 15, 0, 2), (2277, 2376, 0, 22)):
            self.check(label, label, 0, None)

    def check_ring(self, web):
        """Lengths are those of the web; steps lead to the end by ties that sum up to the length."""
        labels = ring_labels(web)
        rows = lengths_by_hand(web)
        ties = joined_by_hand(web)
        for one, other in itertools.product(range(web[0]), repeat=2):
            self.assertEqual(ring_told(labels[one], labels[other]), rows[one][other], (web, one, other))
            place = one
            gone = 0
            for k in range(web[0]):
                if place != other:
                    step = ring_step(labels[place], labels[other])
                    gone += ties[place, step]
                    place = step
            self.assertEqual((place, gone), (other, rows[one][other]), (web, one, other))
            self.assertIsNone(ring_step(labels[place], labels[other]))

    def test_each_seating_of_few_places(self):
        for names, longs in few_rings():
            self.check_ring(ring_of(names, longs))

    def test_rings_of_up_to_24_places(self):
        for names, longs in itertools.islice(great_rings(), 0, None, 3):
            self.check_ring(ring_of(names, longs))


class Refused(Refusing):
    def assertNoRing(self, web):
        self.assertRefused(NoRing, ring_labels, web)

    def test_one_or_two_places(self):
        self.assertNoRing((1, ()))
        self.assertNoRing((2, ()))
        self.assertNoRing((2, ((0, 1, 5),)))

    def test_no_tie(self):
        for n in range(1, 25):
            self.assertNoRing((n, ()))

    def test_tie_struck(self):
        for names, longs in itertools.islice(great_rings(), 0, None, 4):
            n, ties = ring_of(names, longs)
            for k in range(n):
                self.assertNoRing((n, ties[:k] + ties[k + 1:]))

    def test_tie_more(self):
        for names, longs in itertools.islice(great_rings(), 0, None, 4):
            n, ties = ring_of(names, longs)
            pairs = [tie[:2] for tie in ties]
            for a, b in itertools.combinations(range(n), 2):
                if (a, b) not in pairs:
                    self.assertNoRing((n, tuple(sorted(ties + ((a, b, 1),)))))

    def test_another_ring_apart(self):
        # Just two are beside each place, but the web is not whole.
        self.assertNoRing((6, ((0, 1, 1), (0, 2, 1), (1, 2, 1), (3, 4, 1), (3, 5, 1), (4, 5, 1))))
        self.assertNoRing((6, ((0, 2, 1), (0, 4, 1), (1, 3, 1), (1, 5, 1), (2, 4, 1), (3, 5, 1))))
        for split in range(3, 22):
            one = [(k, (k + 1) % split) for k in range(split)]
            other = [(split + k, split + (k + 1) % (24 - split)) for k in range(24 - split)]
            self.assertNoRing((24, tuple(sorted((min(pair), max(pair), 2) for pair in one + other))))

    def test_place_apart(self):
        for n in range(3, 24):
            self.assertNoRing((n + 1, ring_of(tuple(range(n)), (3,) * n)[1]))

    def test_as_many_ties_as_places_but_a_place_hangs_on_it(self):
        self.assertNoRing((4, ((0, 1, 1), (0, 2, 1), (1, 2, 1), (2, 3, 1))))
        self.assertNoRing((4, ((0, 1, 1), (1, 2, 1), (1, 3, 1), (2, 3, 1))))

    def test_two_rings_that_share_a_place(self):
        self.assertNoRing((5, ((0, 1, 1), (0, 2, 1), (1, 2, 1), (2, 3, 1), (2, 4, 1), (3, 4, 1))))

    def test_each_small_web(self):
        rings = 0
        for web in small_webs():
            beside = [sum(place in tie[:2] for tie in web[1]) for place in range(4)]
            if beside == [2, 2, 2, 2] and len(parts_by_hand(web, range(4))) == 1:
                self.assertEqual(len(ring_labels(web)), 4)
                rings += 1
            else:
                self.assertNoRing(web)
        self.assertEqual(rings, 3 * 81)

    def test_trees_and_great_webs(self):
        for web in itertools.chain(great_trees(), great_webs()):
            self.assertNoRing(web)


class AskersOwn(unittest.TestCase):
    def test_webs_by_turns(self):
        seats = [((0, 2, 1, 3), (4, 3, 2, 1)), ((0, 1, 2, 3), (4, 3, 2, 1)), ((2, 1, 0), (1, 1, 7))]
        webs = [ring_of(names, longs) for names, longs in seats]
        ahead = copy.deepcopy(webs)
        first = ring_labels(webs[0])
        kept = copy.deepcopy(first)
        for k in range(3):
            for web, (names, longs) in zip(webs, seats):
                self.assertEqual(with_kinds(ring_labels(web)), with_kinds(ring_labels_by_hand(names, longs)))
            with self.assertRaises(NoRing):
                ring_labels((2, ((0, 1, 1),)))
        self.assertEqual(with_kinds(first), with_kinds(kept))
        self.assertEqual(with_kinds(webs), with_kinds(ahead))
        ring_told(first[1], first[3])
        ring_step(first[1], first[3])
        self.assertEqual(with_kinds(first), with_kinds(kept))


if __name__ == "__main__":
    unittest.main()
