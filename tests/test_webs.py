import copy
import itertools
import unittest

from by_hand import nested, with_kinds
from labelways.webs import beside, is_web, is_whole, long_of

# Places 0 to 4 in one piece, 5 by itself; numbers and ties lie crosswise on purpose.
WEB = (6, ((0, 3, 7), (0, 4, 2), (1, 2, 99), (1, 4, 5), (2, 3, 1), (3, 4, 9)))
NO_TIE = (3, ())


def first_ties(n, count):
    pairs = list(itertools.combinations(range(n), 2))[:count]
    return tuple((a, b, 1 + k % 99) for k, (a, b) in enumerate(pairs))


class IsWeb(unittest.TestCase):
    def assertWeb(self, thing):
        self.assertIs(is_web(thing), True, repr(thing)[:200])

    def assertNoWeb(self, thing):
        self.assertIs(is_web(thing), False, repr(thing)[:200])

    def test_ordinary(self):
        self.assertWeb(WEB)
        self.assertWeb(NO_TIE)
        self.assertWeb((2, ((0, 1, 50),)))

    def test_how_many_places(self):
        for n in range(1, 25):
            self.assertWeb((n, ()))
        for n in (0, 25, 26, 100, -1, -24, 10 ** 39, -(10 ** 39)):
            self.assertNoWeb((n, ()))
        self.assertWeb((24, ((0, 23, 1), (22, 23, 1))))
        self.assertNoWeb((25, ((0, 24, 1),)))

    def test_how_many_ties(self):
        for n in (12, 24):
            self.assertWeb((n, first_ties(n, 59)))
            self.assertWeb((n, first_ties(n, 60)))
            self.assertNoWeb((n, first_ties(n, 61)))
        self.assertNoWeb((24, first_ties(24, 276)))
        self.assertNoWeb((24, ((0, 1, 1),) * 200000))

    def test_ties_rise(self):
        self.assertWeb((4, ((0, 1, 9), (0, 2, 5), (1, 2, 1))))
        for ties in itertools.permutations(((0, 1, 9), (0, 2, 5), (1, 2, 1))):
            if ties != tuple(sorted(ties)):
                self.assertNoWeb((4, ties))
        self.assertNoWeb((5, ((0, 1, 1), (2, 3, 1), (1, 4, 1), (3, 4, 1))))
        self.assertNoWeb((5, ((0, 1, 1), (1, 2, 1), (3, 4, 1), (2, 4, 1))))
        # The long alone would let these rise.
        self.assertNoWeb((3, ((0, 2, 1), (0, 1, 2))))

    def test_no_two_places_joined_twice(self):
        self.assertNoWeb((3, ((0, 1, 4), (0, 1, 4))))
        self.assertNoWeb((3, ((0, 1, 4), (0, 1, 5))))
        self.assertNoWeb((3, ((0, 1, 5), (0, 1, 4))))
        self.assertNoWeb((3, ((0, 1, 4), (0, 2, 4), (1, 2, 4), (1, 2, 5))))
        self.assertNoWeb((3, ((0, 1, 4), (1, 0, 4))))

    def test_a_below_b(self):
        self.assertNoWeb((3, ((1, 0, 5),)))
        self.assertNoWeb((3, ((1, 1, 5),)))
        self.assertNoWeb((3, ((0, 0, 5),)))
        self.assertNoWeb((1, ((0, 0, 5),)))
        self.assertNoWeb((3, ((0, 1, 5), (2, 1, 5))))

    def test_both_are_places(self):
        self.assertWeb((3, ((0, 2, 5),)))
        for tie in [(0, 3, 5), (2, 3, 5), (3, 4, 5), (-1, 0, 5), (-1, 2, 5), (-2, -1, 5), (0, 10 ** 39, 5)]:
            self.assertNoWeb((3, (tie,)))
        self.assertNoWeb((3, ((0, 1, 5), (0, 3, 5))))
        self.assertNoWeb((1, ((0, 1, 5),)))

    def test_long(self):
        for long in (1, 2, 98, 99):
            self.assertWeb((2, ((0, 1, long),)))
        for long in (0, 100, 101, -1, -99, 10 ** 39):
            self.assertNoWeb((2, ((0, 1, long),)))
        self.assertNoWeb((3, ((0, 1, 1), (0, 2, 1), (1, 2, 0))))
        self.assertNoWeb((3, ((0, 1, 100), (0, 2, 1), (1, 2, 1))))

    def test_truth_is_no_number(self):
        for truth in (True, False):
            self.assertNoWeb((truth, ()))
            self.assertNoWeb((2, ((truth, 1, 1),)))
            self.assertNoWeb((3, ((truth, 2, 1),)))
            self.assertNoWeb((2, ((0, truth, 1),)))
            self.assertNoWeb((2, ((0, 1, truth),)))

    def test_list_is_no_tuple(self):
        self.assertNoWeb([2, ((0, 1, 1),)])
        self.assertNoWeb([1, ()])
        self.assertNoWeb((2, [(0, 1, 1)]))
        self.assertNoWeb((1, []))
        self.assertNoWeb((2, ([0, 1, 1],)))
        self.assertNoWeb((3, ((0, 1, 1), [0, 2, 1])))
        self.assertNoWeb([2, [[0, 1, 1]]])

    def test_how_many_stand_in_each(self):
        for thing in [(), (2,), ((),), (2, (), ()), (2, ((0, 1, 1),), 0), (2, 0, 1, 1), (2, (0, 1, 1))]:
            self.assertNoWeb(thing)
        for tie in [(), (0,), (0, 1), (0, 1, 1, 1), (0, 1, 1, 1, 1)]:
            self.assertNoWeb((2, (tie,)))
            self.assertNoWeb((3, ((0, 1, 1), tie)))

    def test_wrong_things_at_any_depth(self):
        wrong = [None, True, False, "", "1", "(1, ())", "web", (), [], (None,), [0], ((),), ((0, 1, 1),)]
        for thing in wrong + [0, 1, -1, 24, 10 ** 39]:
            self.assertNoWeb(thing)
        for thing in wrong:
            self.assertNoWeb((thing, ()))
            self.assertNoWeb((2, (thing,)))
            for tie in [(thing, 1, 1), (0, thing, 1), (0, 1, thing)]:
                self.assertNoWeb((2, (tie,)))
                self.assertNoWeb((3, (tie, (1, 2, 1))))
                self.assertNoWeb((3, ((0, 1, 1), tie)))
        for thing in [None, True, False, "", "1", [], [(0, 1, 1)], 0, 1, (None,), (0,)]:
            self.assertNoWeb((2, thing))

    def test_deep_and_long_things(self):
        for kind in (tuple, list):
            self.assertNoWeb(nested(kind, 60))
            self.assertNoWeb((2, nested(kind, 59)))
            self.assertNoWeb(kind([0]) * 100000)
        self.assertNoWeb("x" * 2000)
        self.assertNoWeb((2, "x" * 2000))
        self.assertNoWeb((2, ((0, 1, 1) * 30000,)))

    def test_stays_as_it_was(self):
        things = [
            WEB,
            [2, [[0, 1, 1]]],
            (2, [(0, 1, 1)]),
            (3, ([1, 2, 1], [0, 1, 1])),
            [[3, 2, 1], [True, None, "b"]],
            (3, ((1, 2, 1), (0, 1, 1))),
        ]
        for thing in things:
            ahead = copy.deepcopy(thing)
            is_web(thing)
            self.assertEqual(with_kinds(thing), with_kinds(ahead))


class LongOf(unittest.TestCase):
    def test_either_place_first(self):
        for a, b, long in WEB[1]:
            self.assertEqual(long_of(WEB, a, b), long)
            self.assertEqual(long_of(WEB, b, a), long)

    def test_none_where_no_tie_is(self):
        joined = [(a, b) for a, b, long in WEB[1]]
        for a, b in itertools.combinations(range(6), 2):
            if (a, b) not in joined:
                self.assertIsNone(long_of(WEB, a, b))
                self.assertIsNone(long_of(WEB, b, a))

    def test_none_of_a_place_and_itself(self):
        for web in (WEB, NO_TIE, (1, ())):
            for place in range(web[0]):
                self.assertIsNone(long_of(web, place, place))

    def test_sixty_ties(self):
        web = (24, first_ties(24, 60))
        for a, b, long in web[1]:
            self.assertEqual((long_of(web, a, b), long_of(web, b, a)), (long, long))
        self.assertIsNone(long_of(web, 22, 23))


class Beside(unittest.TestCase):
    def check(self, web, place, asked):
        found = beside(web, place)
        self.assertIs(type(found), tuple)
        self.assertEqual(found, asked)

    def test_rising(self):
        for place, asked in enumerate([(3, 4), (2, 4), (1, 3), (0, 2, 4), (0, 1, 3), ()]):
            self.check(WEB, place, asked)

    def test_no_tie(self):
        for place in range(3):
            self.check(NO_TIE, place, ())
        self.check((1, ()), 0, ())

    def test_middle_place_of_many(self):
        ties = tuple((min(k, 12), max(k, 12), 99 - k) for k in range(24) if k != 12)
        web = (24, tuple(sorted(ties)))
        self.check(web, 12, tuple(k for k in range(24) if k != 12))
        self.check(web, 23, (12,))
        self.check(web, 0, (12,))

    def test_each_way_round(self):
        for place in range(6):
            for other in range(6):
                self.assertEqual(other in beside(WEB, place), long_of(WEB, place, other) is not None)


class IsWhole(unittest.TestCase):
    def check(self, web, asked):
        self.assertIs(is_whole(web), asked, web)

    def test_one_place(self):
        self.check((1, ()), True)

    def test_no_tie(self):
        for n in range(2, 25):
            self.check((n, ()), False)

    def test_whole(self):
        self.check((2, ((0, 1, 99),)), True)
        self.check((5, ((0, 4, 1), (1, 4, 1), (2, 3, 1), (3, 4, 1))), True)
        self.check((24, tuple((k, k + 1, 1) for k in range(23))), True)
        self.check((12, first_ties(12, 60)), True)

    def test_long_row_with_crosswise_numbers(self):
        row = [(7 * k) % 24 for k in range(24)]
        ties = sorted((min(a, b), max(a, b), 3) for a, b in zip(row, row[1:]))
        self.check((24, tuple(ties)), True)
        for k in range(len(ties)):
            self.check((24, tuple(ties[:k] + ties[k + 1:])), False)

    def test_parted(self):
        self.check(WEB, False)
        self.check((4, ((0, 1, 1), (2, 3, 1))), False)
        # As many ties as a whole web needs, but place 0 has none, or the last one.
        self.check((4, ((1, 2, 1), (1, 3, 1), (2, 3, 1))), False)
        self.check((4, ((0, 1, 1), (0, 2, 1), (1, 2, 1))), False)


class HandedIn(unittest.TestCase):
    def test_stays_as_it_was(self):
        ahead = copy.deepcopy(WEB)
        for place in range(6):
            beside(WEB, place)
            long_of(WEB, place, 0)
        is_whole(WEB)
        self.assertEqual(with_kinds(WEB), with_kinds(ahead))

    def test_somewhat_beyond_the_bounds(self):
        web = (26, tuple((k, k + 1, 150) for k in range(25)))
        self.assertEqual(long_of(web, 25, 24), 150)
        self.assertEqual(beside(web, 24), (23, 25))
        self.assertIs(is_whole(web), True)


if __name__ == "__main__":
    unittest.main()
