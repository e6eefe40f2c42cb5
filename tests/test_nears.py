import copy
import itertools
import unittest

from by_hand import (
    NO_PLACES, great_webs, lengths_by_hand, near_labels_by_hand, near_told_by_hand, nested, small_webs, some_posts,
    with_kinds,
)
from checked import Refusing
from labelways.errors import NoPosts
from labelways.nears import near_labels, near_told

ROW = (3, ((0, 1, 2), (1, 2, 3)))
FIVE = (5, ((0, 1, 1), (1, 2, 1), (2, 3, 1), (3, 4, 1)))
# 0 to 3 has two ways of 5, by 1 and by 2; 4 hangs on 3; 5 and 6 lie apart.
WEB = (7, ((0, 1, 2), (0, 2, 1), (0, 3, 6), (1, 3, 3), (2, 3, 4), (3, 4, 10), (5, 6, 8)))


class NearLabels(unittest.TestCase):
    def check(self, web, posts, asked):
        self.assertEqual(with_kinds(near_labels(web, posts)), with_kinds(asked), (web, posts))

    def test_one_post(self):
        self.check(ROW, (1,), (
            (0, (1, 2), ((0, 0),), ((1, 2),)),
            (1, (1, 0), (), ((1, 0),)),
            (2, (1, 3), ((2, 0),), ((1, 3),)),
        ))
        self.check(ROW, (0,), (
            (0, (0, 0), (), ((0, 0),)),
            (1, (0, 2), ((1, 0),), ((0, 2),)),
            (2, (0, 5), ((1, 3), (2, 0)), ((0, 5),)),
        ))

    def test_two_posts(self):
        self.check(ROW, (0, 2), (
            (0, (0, 0), (), ((0, 0), (2, 5))),
            (1, (0, 2), ((1, 0),), ((0, 2), (2, 3))),
            (2, (2, 0), (), ((0, 5), (2, 0))),
        ))

    def test_all_places_are_posts(self):
        self.check(ROW, (0, 1, 2), (
            (0, (0, 0), (), ((0, 0), (1, 2), (2, 5))),
            (1, (1, 0), (), ((0, 2), (1, 0), (2, 3))),
            (2, (2, 0), (), ((0, 5), (1, 3), (2, 0))),
        ))

    def test_of_posts_as_near_the_least_is_home(self):
        self.check(FIVE, (0, 2, 4), (
            (0, (0, 0), (), ((0, 0), (2, 2), (4, 4))),
            (1, (0, 1), ((1, 0),), ((0, 1), (2, 1), (4, 3))),
            (2, (2, 0), (), ((0, 2), (2, 0), (4, 2))),
            (3, (2, 1), ((3, 0),), ((0, 3), (2, 1), (4, 1))),
            (4, (4, 0), (), ((0, 4), (2, 2), (4, 0))),
        ))
        # All three posts are 1 from 3, whichever is tied to it by the first tie.
        web = (4, ((0, 3, 1), (1, 3, 1), (2, 3, 1)))
        self.assertEqual(near_labels(web, (0, 1, 2))[3][1], (0, 1))
        self.assertEqual(near_labels(web, (1, 2))[3][1], (1, 1))

    def test_near_is_nearer_than_home_not_as_near(self):
        # From 2 both 1 and the post 3 are 1 long: 1 is not near.
        self.check(FIVE, (3,), (
            (0, (3, 3), ((0, 0), (1, 1), (2, 2)), ((3, 3),)),
            (1, (3, 2), ((0, 1), (1, 0), (2, 1)), ((3, 2),)),
            (2, (3, 1), ((2, 0),), ((3, 1),)),
            (3, (3, 0), (), ((3, 0),)),
            (4, (3, 1), ((4, 0),), ((3, 1),)),
        ))

    def test_home_by_lengths_not_by_ties(self):
        # The tie to 0 is longer than the way by 1.
        self.check((3, ((0, 1, 1), (0, 2, 9), (1, 2, 1))), (0,), (
            (0, (0, 0), (), ((0, 0),)),
            (1, (0, 1), ((1, 0),), ((0, 1),)),
            (2, (0, 2), ((1, 1), (2, 0)), ((0, 2),)),
        ))

    def test_web_that_is_not_whole(self):
        self.check(WEB, (3, 5), (
            (0, (3, 5), ((0, 0), (1, 2), (2, 1)), ((3, 5),)),
            (1, (3, 3), ((0, 2), (1, 0)), ((3, 3),)),
            (2, (3, 4), ((0, 1), (1, 3), (2, 0)), ((3, 4),)),
            (3, (3, 0), (), ((3, 0),)),
            (4, (3, 10), ((4, 0),), ((3, 10),)),
            (5, (5, 0), (), ((5, 0),)),
            (6, (5, 8), ((6, 0),), ((5, 8),)),
        ))

    def test_no_way_to_any_post(self):
        self.check(WEB, (6,), (
            (0, None, ((0, 0), (1, 2), (2, 1), (3, 5), (4, 15)), ()),
            (1, None, ((0, 2), (1, 0), (2, 3), (3, 3), (4, 13)), ()),
            (2, None, ((0, 1), (1, 3), (2, 0), (3, 4), (4, 14)), ()),
            (3, None, ((0, 5), (1, 3), (2, 4), (3, 0), (4, 10)), ()),
            (4, None, ((0, 15), (1, 13), (2, 14), (3, 10), (4, 0)), ()),
            (5, (6, 8), ((5, 0),), ((6, 8),)),
            (6, (6, 0), (), ((6, 0),)),
        ))

    def test_one_place_and_no_tie(self):
        self.check((1, ()), (0,), ((0, (0, 0), (), ((0, 0),)),))
        self.check((3, ()), (0, 2), (
            (0, (0, 0), (), ((0, 0),)), (1, None, ((1, 0),), ()), (2, (2, 0), (), ((2, 0),)),
        ))

    def test_each_small_web(self):
        sets = [posts for count in (1, 2, 3, 4) for posts in itertools.combinations(range(4), count)]
        for web, posts in zip(small_webs(), itertools.cycle(sets)):
            self.check(web, posts, near_labels_by_hand(web, posts))

    def test_each_posts_of_some_webs(self):
        for web in (WEB, (7, FIVE[1]), (7, ())):
            for count in range(1, 8):
                for posts in itertools.combinations(range(7), count):
                    self.check(web, posts, near_labels_by_hand(web, posts))

    def test_great_webs(self):
        for web in great_webs():
            for posts in some_posts(24):
                self.check(web, posts, near_labels_by_hand(web, posts))

    def test_place_is_near_itself_unless_it_is_a_post(self):
        for web in great_webs():
            for posts in some_posts(24):
                for label in near_labels(web, posts):
                    self.assertEqual((label[0], 0) in label[2], label[0] not in posts)
                    self.assertEqual((label[0], 0) in label[3], label[0] in posts)

    def test_somewhat_beyond_the_bounds(self):
        web = (30, tuple((k, k + 1, 150) for k in range(29)))
        for posts in ((29,), (0, 28, 29), tuple(range(30))):
            self.check(web, posts, near_labels_by_hand(web, posts))


class NearTold(unittest.TestCase):
    def check(self, one, other, asked):
        self.assertEqual(with_kinds(near_told(one, other)), with_kinds(asked), (one, other))

    def check_rows(self, web, posts, asked):
        labels = near_labels(web, posts)
        for one, row in zip(labels, asked):
            for other, length in zip(labels, row):
                self.check(one, other, length)

    def test_one_stands_in_the_near_of_the_other(self):
        # Each way round: 1 stands in the near of 0 alone.
        one = (0, (3, 3), ((0, 0), (1, 2)), ((3, 3),))
        other = (1, (3, 1), ((1, 0),), ((3, 1),))
        self.check(one, other, 2)
        self.check(other, one, 2)

    def test_by_the_lesser_of_both_homes(self):
        # By the first one's home 2 + 4, by the second one's 1 + 3.
        one = (0, (5, 2), ((0, 0),), ((5, 2), (6, 3)))
        other = (1, (6, 1), ((1, 0),), ((5, 4), (6, 1)))
        self.check(one, other, 4)
        self.check(other, one, 4)

    def test_near_goes_ahead_of_homes(self):
        rows = ((0, 1, 2, 3, 4), (1, 0, 1, 2, 3), (2, 1, 0, 1, 2), (3, 2, 1, 0, 1), (4, 3, 2, 1, 0))
        self.check_rows(FIVE, (3,), rows)

    def test_more_than_the_length(self):
        # 1 and 2 are 1 from one another and 1 from their homes.
        self.check_rows((4, ((0, 1, 1), (1, 2, 1), (2, 3, 1))), (0, 3), (
            (0, 1, 2, 3), (1, 0, 3, 2), (2, 3, 0, 1), (3, 2, 1, 0),
        ))
        self.check_rows((4, ((0, 1, 99), (1, 2, 99), (2, 3, 99))), (0, 3), (
            (0, 99, 198, 297), (99, 0, 297, 198), (198, 297, 0, 99), (297, 198, 99, 0),
        ))
        self.check_rows((3, ((0, 2, 2), (1, 2, 3))), (2,), ((0, 5, 2), (5, 0, 3), (2, 3, 0)))
        self.check_rows((3, ((0, 1, 3), (0, 2, 2), (1, 2, 3))), (2,), ((0, 5, 2), (5, 0, 3), (2, 3, 0)))

    def test_label_with_itself(self):
        for posts in some_posts(7):
            for label in near_labels(WEB, posts):
                self.check(label, label, 0)

    def test_all_places_are_posts(self):
        self.check_rows(WEB, tuple(range(7)), lengths_by_hand(WEB))

    def test_no_way(self):
        labels = near_labels(WEB, (3, 5))
        for a in range(5):
            for b in (5, 6):
                self.check(labels[a], labels[b], None)
                self.check(labels[b], labels[a], None)

    def test_no_way_to_any_post(self):
        # Where home is None all lengths are in the near; to the places of the other part none is told.
        self.check_rows(WEB, (6,), lengths_by_hand(WEB))
        self.check_rows(WEB, (5, 6), lengths_by_hand(WEB))
        self.check_rows((3, ()), (1,), ((0, None, None), (None, 0, None), (None, None, 0)))

    def check_web(self, web, posts):
        labels = near_labels(web, posts)
        rows = lengths_by_hand(web)
        for one, other in itertools.product(range(web[0]), repeat=2):
            length = near_told(labels[one], labels[other])
            self.assertEqual(with_kinds(length), with_kinds(near_told_by_hand(web, posts, one, other)))
            self.assertEqual(length is None, rows[one][other] is None)
            if length is not None:
                self.assertLessEqual(rows[one][other], length, (web, posts, one, other))
                self.assertLessEqual(length, 3 * rows[one][other], (web, posts, one, other))

    def test_each_small_web(self):
        sets = [posts for count in (1, 2, 3, 4) for posts in itertools.combinations(range(4), count)]
        for web, posts in zip(small_webs(), itertools.cycle(sets)):
            self.check_web(web, posts)

    def test_each_posts_of_some_webs(self):
        for web in (WEB, (7, FIVE[1]), (7, ())):
            for count in range(1, 8):
                for posts in itertools.combinations(range(7), count):
                    self.check_web(web, posts)

    def test_great_webs(self):
        for web in great_webs():
            for posts in some_posts(24)[::3]:
                self.check_web(web, posts)


class Refused(Refusing):
    def assertNoPosts(self, web, thing):
        self.assertRefused(NoPosts, near_labels, web, thing)

    def test_no_posts(self):
        for thing in NO_PLACES:
            self.assertNoPosts(ROW, thing)

    def test_everything_short(self):
        for count in range(5):
            for thing in itertools.product((-1, 0, 1, 2, 3), repeat=count):
                if thing and sorted(set(thing) & {0, 1, 2}) == list(thing):
                    self.assertEqual(near_labels(ROW, thing), near_labels_by_hand(ROW, thing))
                else:
                    self.assertNoPosts(ROW, thing)

    def test_posts_with_one_wrong(self):
        for posts in some_posts(24):
            for k in range(len(posts)):
                for wrong in (24, -1, True, False, None, "7", (posts[k],), [posts[k]], str(posts[k])):
                    self.assertNoPosts((24, ()), posts[:k] + (wrong,) + posts[k + 1:])
            self.assertNoPosts((24, ()), list(posts))
            self.assertNoPosts((24, ()), posts + posts[-1:])
            self.assertNoPosts((24, ()), posts[:1] + posts)
            self.assertNoPosts((24, ()), posts + (24,))
            if len(posts) > 1:
                self.assertNoPosts((24, ()), posts[::-1])

    def test_deep_and_long_things(self):
        for kind in (tuple, list):
            for thing in (nested(kind, 60), (0, nested(kind, 59)), kind([0]) * 100000, kind(range(100000))):
                self.assertNoPosts(ROW, thing)
                self.assertNoPosts((24, ()), thing)
        self.assertNoPosts((24, ()), tuple(range(24)) * 5000)

    def test_stays_as_it_was(self):
        for thing in ([0, 1], [[0]], (0, [1], 2), [True, None, "b"], [2, 1, 0]):
            ahead = copy.deepcopy(thing)
            self.assertNoPosts(ROW, thing)
            self.assertEqual(with_kinds(thing), with_kinds(ahead))


class AskersOwn(unittest.TestCase):
    def test_webs_and_posts_by_turns(self):
        asked = [(WEB, (3, 5)), (WEB, (6,)), (FIVE, (0, 2, 4)), (ROW, (1,)), (ROW, (0, 2))]
        ahead = copy.deepcopy(asked)
        first = near_labels(WEB, (3, 5))
        kept = copy.deepcopy(first)
        for k in range(3):
            for web, posts in asked:
                self.assertEqual(with_kinds(near_labels(web, posts)), with_kinds(near_labels_by_hand(web, posts)))
            with self.assertRaises(NoPosts):
                near_labels(WEB, (5, 3))
        for one, other in itertools.product(first, repeat=2):
            near_told(one, other)
        self.assertEqual(with_kinds(first), with_kinds(kept))
        self.assertEqual(with_kinds(asked), with_kinds(ahead))


if __name__ == "__main__":
    unittest.main()
