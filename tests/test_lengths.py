import copy
import itertools
import unittest

from by_hand import great_webs, joined_by_hand, lengths_by_hand, shortest_ways, small_webs
from labelways.lengths import between, lengths, next_places, way_length
from labelways.webs import is_web

# 0 to 3 has two ways of 5, by 1 and by 2, and a tie of 6; 4 hangs on 3; 5 and 6 lie apart.
WEB = (7, ((0, 1, 2), (0, 2, 1), (0, 3, 6), (1, 3, 3), (2, 3, 4), (3, 4, 10), (5, 6, 8)))


class Lengths(unittest.TestCase):
    def test_ordinary(self):
        self.assertEqual(lengths(WEB), (
            (0, 2, 1, 5, 15, None, None),
            (2, 0, 3, 3, 13, None, None),
            (1, 3, 0, 4, 14, None, None),
            (5, 3, 4, 0, 10, None, None),
            (15, 13, 14, 10, 0, None, None),
            (None, None, None, None, None, 0, 8),
            (None, None, None, None, None, 8, 0),
        ))

    def test_one_place_and_no_tie(self):
        self.assertEqual(lengths((1, ())), ((0,),))
        self.assertEqual(lengths((3, ())), ((0, None, None), (None, 0, None), (None, None, 0)))

    def test_kinds(self):
        for web in (WEB, (1, ()), (3, ())):
            found = lengths(web)
            self.assertIs(type(found), tuple)
            self.assertEqual(len(found), web[0])
            for row in found:
                self.assertIs(type(row), tuple)
                self.assertEqual(len(row), web[0])
                for long in row:
                    self.assertIn(type(long), (int, type(None)))

    def test_tie_that_is_longer_than_a_way(self):
        self.assertEqual(lengths((3, ((0, 1, 1), (0, 2, 99), (1, 2, 1))))[0], (0, 1, 2))
        self.assertEqual(lengths((4, ((0, 1, 9), (0, 2, 1), (1, 3, 1), (2, 3, 1))))[0], (0, 3, 1, 2))

    def test_long_rows(self):
        row = (24, tuple((k, k + 1, 99) for k in range(23)))
        self.assertEqual(lengths(row), tuple(tuple(99 * abs(a - b) for b in range(24)) for a in range(24)))
        order = [(7 * k) % 24 for k in range(24)]
        ties = sorted((min(a, b), max(a, b), 3) for a, b in zip(order, order[1:]))
        found = lengths((24, tuple(ties)))
        for k, a in enumerate(order):
            for m, b in enumerate(order):
                self.assertEqual(found[a][b], 3 * abs(k - m))

    def test_every_small_web(self):
        for web in small_webs():
            asked = tuple(tuple(shortest_ways(web, a, b)[1] for b in range(4)) for a in range(4))
            self.assertEqual(lengths(web), asked, web)

    def test_great_webs(self):
        for web in great_webs():
            self.assertTrue(is_web(web))
            self.assertEqual(lengths(web), lengths_by_hand(web), web)

    def test_somewhat_beyond_the_bounds(self):
        web = (26, tuple((k, k + 1, 150) for k in range(25)))
        self.assertEqual(lengths(web)[0][25], 25 * 150)


class WayLength(unittest.TestCase):
    def test_of_a_way(self):
        self.assertEqual(way_length(WEB, (0, 1)), 2)
        self.assertEqual(way_length(WEB, (1, 0)), 2)
        self.assertEqual(way_length(WEB, (0, 1, 3, 4)), 15)
        self.assertEqual(way_length(WEB, (4, 3, 2, 0)), 15)
        # A way need not be shortest, and may come to a place anew.
        self.assertEqual(way_length(WEB, (0, 3)), 6)
        self.assertEqual(way_length(WEB, (0, 1, 0)), 4)
        self.assertEqual(way_length(WEB, (0, 1, 3, 2, 0, 1)), 12)
        self.assertEqual(way_length(WEB, (5, 6) * 1000), 8 * 1999)

    def test_of_one_place(self):
        for place in range(7):
            self.assertEqual(way_length(WEB, (place,)), 0)
        self.assertEqual(way_length((1, ()), (0,)), 0)

    def test_places_that_are_not_joined(self):
        for places in [(1, 2), (2, 1), (0, 4), (0, 5), (0, 1, 2), (1, 2, 3), (0, 1, 2, 3), (3, 4, 5, 6)]:
            self.assertIsNone(way_length(WEB, places), places)

    def test_a_place_twice_side_by_side(self):
        for places in [(0, 0), (0, 0, 1), (0, 1, 1), (0, 1, 1, 3), (5, 5)]:
            self.assertIsNone(way_length(WEB, places), places)
        self.assertIsNone(way_length((1, ()), (0, 0)))

    def test_no_place_at_all_is_no_way(self):
        self.assertIsNone(way_length(WEB, ()))

    def test_kind(self):
        for places in [(0,), (0, 1), (0, 1, 3)]:
            self.assertIs(type(way_length(WEB, places)), int)


class Between(unittest.TestCase):
    def check(self, web, one, other, asked):
        for places in (between(web, one, other), between(web, other, one)):
            self.assertIs(type(places), tuple)
            self.assertEqual(places, asked, (web, one, other))

    def test_several_shortest_ways(self):
        self.check(WEB, 0, 3, (0, 1, 2, 3))
        self.check(WEB, 0, 4, (0, 1, 2, 3, 4))

    def test_one_shortest_way(self):
        self.check(WEB, 0, 1, (0, 1))
        self.check(WEB, 1, 4, (1, 3, 4))
        self.check(WEB, 1, 2, (0, 1, 2))
        self.check(WEB, 5, 6, (5, 6))

    def test_tie_as_long_as_a_way(self):
        self.check((3, ((0, 1, 1), (0, 2, 2), (1, 2, 1))), 0, 2, (0, 1, 2))

    def test_tie_that_is_shorter_than_a_way(self):
        self.check((3, ((0, 1, 1), (0, 2, 1), (1, 2, 1))), 0, 2, (0, 2))

    def test_no_way(self):
        self.check(WEB, 0, 5, ())
        self.check(WEB, 6, 4, ())
        self.check((2, ()), 0, 1, ())

    def test_a_place_and_itself(self):
        for place in range(7):
            self.check(WEB, place, place, (place,))
        self.check((1, ()), 0, 0, (0,))

    def test_every_small_web(self):
        for web in small_webs():
            for one in range(4):
                for other in range(4):
                    ways = shortest_ways(web, one, other)[0]
                    asked = tuple(sorted({place for way in ways for place in way}))
                    found = between(web, one, other)
                    self.assertEqual(found, asked, (web, one, other))

    def test_great_webs(self):
        for web in great_webs():
            rows = lengths_by_hand(web)
            for one, other in itertools.product(range(0, 24, 5), range(24)):
                asked = ()
                if rows[one][other] is not None:
                    joined = [p for p in range(24) if rows[one][p] is not None]
                    asked = tuple(p for p in joined if rows[one][p] + rows[p][other] == rows[one][other])
                self.assertEqual(between(web, one, other), asked)


class NextPlaces(unittest.TestCase):
    def check(self, web, one, other, asked):
        places = next_places(web, one, other)
        self.assertIs(type(places), tuple)
        self.assertEqual(places, asked, (web, one, other))

    def test_several_shortest_ways(self):
        self.check(WEB, 0, 3, (1, 2))
        self.check(WEB, 3, 0, (1, 2))
        self.check(WEB, 0, 4, (1, 2))
        self.check(WEB, 4, 0, (3,))

    def test_one_shortest_way(self):
        self.check(WEB, 0, 1, (1,))
        self.check(WEB, 1, 2, (0,))
        self.check(WEB, 2, 1, (0,))
        self.check(WEB, 6, 5, (5,))

    def test_tie_as_long_as_a_way(self):
        web = (3, ((0, 1, 1), (0, 2, 2), (1, 2, 1)))
        self.check(web, 0, 2, (1, 2))
        self.check(web, 2, 0, (0, 1))

    def test_rising_with_crosswise_numbers(self):
        web = (5, ((0, 3, 1), (0, 4, 3), (1, 3, 2), (1, 4, 1), (2, 3, 3), (2, 4, 1)))
        self.check(web, 3, 4, (1,))
        web = (5, ((0, 3, 1), (0, 4, 3), (1, 3, 3), (1, 4, 1), (2, 3, 2), (2, 4, 2)))
        self.check(web, 3, 4, (0, 1, 2))
        self.check(web, 4, 3, (0, 1, 2))

    def test_no_way(self):
        self.check(WEB, 0, 5, ())
        self.check(WEB, 5, 0, ())
        self.check((2, ()), 1, 0, ())

    def test_a_place_and_itself(self):
        for place in range(7):
            self.check(WEB, place, place, ())
        self.check((1, ()), 0, 0, ())

    def test_every_small_web(self):
        for web in small_webs():
            for one in range(4):
                for other in range(4):
                    ways = shortest_ways(web, one, other)[0]
                    asked = tuple(sorted({way[1] for way in ways if len(way) > 1}))
                    self.assertEqual(next_places(web, one, other), asked, (web, one, other))

    def test_great_webs(self):
        for web in great_webs():
            rows = lengths_by_hand(web)
            ties = joined_by_hand(web)
            for one, other in itertools.product(range(24), range(0, 24, 5)):
                asked = ()
                if rows[one][other] is not None:
                    joined = sorted(b for a, b in ties if a == one)
                    asked = tuple(p for p in joined if ties[one, p] + rows[p][other] == rows[one][other])
                self.assertEqual(next_places(web, one, other), asked)


class HandedIn(unittest.TestCase):
    def test_nothing_is_changed_and_nothing_hangs_on_what_was_asked(self):
        ahead = copy.deepcopy(WEB)
        places = (0, 1, 3)
        first = (lengths(WEB), between(WEB, 0, 3), next_places(WEB, 0, 3), way_length(WEB, places))
        kept = copy.deepcopy(first)
        for web in itertools.islice(great_webs(), 3):
            lengths(web)
            between(web, 0, 3)
            next_places(web, 0, 3)
        again = (lengths(WEB), between(WEB, 0, 3), next_places(WEB, 0, 3), way_length(WEB, places))
        self.assertEqual(repr(WEB), repr(ahead))
        self.assertEqual(places, (0, 1, 3))
        self.assertEqual(repr(first), repr(kept))
        self.assertEqual(again, kept)


if __name__ == "__main__":
    unittest.main()
