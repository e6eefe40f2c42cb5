import copy
import itertools
import unittest

from by_hand import great_orders, great_rings, great_trees, great_webs, ring_of, small_webs, with_kinds
from by_hand_lines import NO_NUMBERS, turned_lines, web_lines_by_hand, web_text_fault
from checked import Reading
from labelways.webs import is_web
from labelways.webtexts import read_web, web_lines

# 0 to 3 has two ways of 5, by 1 and by 2; 4 hangs on 3; 5 and 6 lie apart.
WEB = (7, ((0, 1, 2), (0, 2, 1), (0, 3, 6), (1, 3, 3), (2, 3, 4), (3, 4, 10), (5, 6, 8)))
LINES = ["web 7", "tie 0 1 2", "tie 0 2 1", "tie 0 3 6", "tie 1 3 3", "tie 2 3 4", "tie 3 4 10", "tie 5 6 8"]
PAIRS = list(itertools.combinations(range(24), 2))
SIXTY = (24, tuple((a, b, 1 + (7 * a + 5 * b) % 99) for a, b in PAIRS[:60]))
ROW = ["web 4", "tie 0 1 5", "tie 1 2 6", "tie 2 3 7"]
OTHERS = ["", "web", "tie", "0", "1", "2", "3", "4", "23", "24", "25", "99", "100", "01", "-1", "x"]


class WebLines(unittest.TestCase):
    def check(self, web, asked):
        self.assertEqual(with_kinds(web_lines(web)), with_kinds(asked), web)

    def test_some_webs(self):
        self.check(WEB, LINES)
        self.check((3, ((0, 1, 2), (1, 2, 3))), ["web 3", "tie 0 1 2", "tie 1 2 3"])
        self.check((24, ((0, 23, 99), (10, 20, 10), (22, 23, 1))), [
            "web 24", "tie 0 23 99", "tie 10 20 10", "tie 22 23 1",
        ])

    def test_no_tie(self):
        for n in range(1, 25):
            self.check((n, ()), ["web " + str(n)])

    def test_each_small_web(self):
        for web in small_webs():
            self.check(web, web_lines_by_hand(web))

    def test_great_webs(self):
        for web in itertools.chain(great_webs(), great_trees(), [SIXTY]):
            self.check(web, web_lines_by_hand(web))

    def test_somewhat_beyond_the_bounds(self):
        self.check((30, ((0, 29, 150),)), ["web 30", "tie 0 29 150"])


class ReadWeb(unittest.TestCase):
    def check(self, lines, asked):
        self.assertEqual(with_kinds(read_web(lines)), with_kinds(asked), lines)

    def test_some_webs(self):
        self.check(LINES, WEB)
        self.check(["web 2", "tie 0 1 1"], (2, ((0, 1, 1),)))
        self.check(["web 24", "tie 0 23 99", "tie 10 20 10", "tie 22 23 1"], (
            24, ((0, 23, 99), (10, 20, 10), (22, 23, 1)),
        ))

    def test_no_tie(self):
        for n in range(1, 25):
            self.check(["web " + str(n)], (n, ()))

    def test_each_long(self):
        for long in range(1, 100):
            self.check(["web 2", f"tie 0 1 {long}"], (2, ((0, 1, long),)))

    def test_each_two_places(self):
        for a, b in PAIRS:
            self.check(["web 24", f"tie {a} {b} 7"], (24, ((a, b, 7),)))

    def test_each_two_ties(self):
        for one, other in itertools.combinations(itertools.combinations(range(5), 2), 2):
            lines = ["web 5", f"tie {one[0]} {one[1]} 9", f"tie {other[0]} {other[1]} 8"]
            self.check(lines, (5, (one + (9,), other + (8,))))

    def test_sixty_ties(self):
        self.check(web_lines(SIXTY), SIXTY)
        self.assertEqual(len(web_lines(SIXTY)), 61)

    def test_read_again_as_they_were(self):
        webs = itertools.chain(small_webs(), great_webs(), great_trees(), [WEB, SIXTY])
        for web in itertools.chain(webs, [ring_of(names, longs) for names, longs in great_rings()]):
            self.check(web_lines(web), web)
            self.assertEqual(web_lines(read_web(web_lines(web))), web_lines(web))


class NoWeb(Reading):
    def check(self, lines, line, word):
        self.assertNoText(line, word, read_web, lines)

    def test_no_line_at_all(self):
        self.check([], 0, 0)

    def test_first_word(self):
        for word in ("", "Web", "WEB", "webs", "we", "tie", "label", "7", "web:", "web,7", "x" * 2000):
            self.check([word], 0, 0)
            self.check([word + " 7"], 0, 0)
            self.check([word + " x"] + LINES[1:], 0, 0)
        self.check(LINES[1:], 0, 0)
        self.check(LINES[1:] + LINES[:1], 0, 0)

    def test_count(self):
        for word in ["", "0", "25", "26", "99", "100", "240", "-", "a", "x" * 1990] + NO_NUMBERS:
            self.check(["web " + word], 0, 1)
            self.check(["web " + word] + LINES[1:], 0, 1)
            self.check(["web " + word, "x"], 0, 1)

    def test_first_line_lacks_words(self):
        self.check(["web"], 0, 1)
        self.check(["web"] + LINES[1:], 0, 1)
        self.check([""], 0, 0)

    def test_word_too_many_in_the_first_line(self):
        for more in ("", "7", "tie", "tie 0 1 2", "x y z", " "):
            self.check(["web 7 " + more], 0, 2)
            self.check(["web 7 " + more] + LINES[1:], 0, 2)

    def test_blanks(self):
        self.check([" web 7"], 0, 0)
        self.check(["  web 7"], 0, 0)
        self.check(["web  7"], 0, 1)
        self.check(["web   7"], 0, 1)
        self.check(["web 7 "], 0, 2)
        self.check(["web 7  "], 0, 2)
        self.check(["web "], 0, 1)
        self.check([" "], 0, 0)
        for k in range(1, 8):
            words = LINES[k].split(" ")
            for j in range(5):
                line = " ".join(words[:j] + [""] + words[j:])
                self.check(LINES[:k] + [line] + LINES[k + 1:], k, j)

    def test_first_word_of_a_tie(self):
        for word in ("", "Tie", "TIE", "ties", "ti", "web", "label", "0", "tie:", "tie,0", "x" * 1980):
            for k in (1, 4, 7):
                self.check(LINES[:k] + [word + " 0 1 2"] + LINES[k + 1:], k, 0)
                self.check(LINES[:k] + [word], k, 0)
        self.check(["web 7", "web 7"], 1, 0)
        self.check(LINES + [""], 8, 0)

    def test_a_that_is_no_number(self):
        for word in ["", "-", "a"] + NO_NUMBERS:
            self.check(["web 3", f"tie {word} 1 2"], 1, 1)
            self.check(["web 3", "tie 0 1 2", f"tie {word} 2 2"], 2, 1)

    def test_a_that_is_no_place(self):
        for word in ("3", "4", "9", "10", "24", "99", "12345678901234567890"):
            self.check(["web 3", f"tie {word} 1 2"], 1, 1)
            self.check(["web 3", f"tie {word} 30 2"], 1, 1)
        self.check(["web 1", "tie 1 2 1"], 1, 1)
        self.check(["web 24", "tie 24 25 1"], 1, 1)

    def test_a_below_the_one_ahead(self):
        self.check(["web 4", "tie 1 2 5", "tie 0 3 5"], 2, 1)
        self.check(["web 4", "tie 1 2 5", "tie 2 3 5", "tie 1 3 5"], 3, 1)
        self.check(["web 24", "tie 10 11 5", "tie 9 23 5"], 2, 1)

    def test_last_place_as_a_can_stand_but_no_b_behind_it(self):
        self.check(["web 3", "tie 2 0 1"], 1, 2)
        self.check(["web 3", "tie 2 2 1"], 1, 2)
        self.check(["web 3", "tie 2 3 1"], 1, 2)
        self.check(["web 3", "tie 2"], 1, 2)
        self.check(["web 1", "tie 0 0 1"], 1, 2)
        self.check(["web 1", "tie 0 1 1"], 1, 2)
        self.check(["web 3", "tie 0 2 1", "tie 0 1 1"], 2, 2)

    def test_b_that_is_no_number(self):
        for word in ["", "-", "a"] + NO_NUMBERS:
            self.check(["web 3", f"tie 0 {word} 2"], 1, 2)
            self.check(["web 3", "tie 0 1 2", f"tie 0 {word} 2"], 2, 2)

    def test_b_that_is_no_place_above_a(self):
        for word in ("3", "4", "9", "24", "99", "1", "0", "12345678901234567890"):
            self.check(["web 3", f"tie 1 {word} 2"], 1, 2)
            self.check(["web 3", "tie 0 1 2", f"tie 1 {word} 0"], 2, 2)

    def test_b_not_above_the_one_ahead(self):
        self.check(["web 5", "tie 0 2 5", "tie 0 2 6"], 2, 2)
        self.check(["web 5", "tie 0 2 5", "tie 0 1 6"], 2, 2)
        self.check(["web 5", "tie 0 2 5", "tie 0 3 6", "tie 0 3 6"], 3, 2)
        self.check(["web 5", "tie 0 3 5", "tie 1 2 6", "tie 1 2 6"], 3, 2)
        # Where A is another one, any B above it can stand.
        self.assertEqual(read_web(["web 5", "tie 0 4 5", "tie 1 2 6"]), (5, ((0, 4, 5), (1, 2, 6))))
        self.assertEqual(read_web(["web 5", "tie 0 3 5", "tie 1 3 6"]), (5, ((0, 3, 5), (1, 3, 6))))

    def test_long(self):
        for word in ["", "-", "a", "0", "100", "101", "999", "1000", "9" * 12, "9" * 13] + NO_NUMBERS:
            self.check(["web 3", f"tie 0 1 {word}"], 1, 3)
            self.check(["web 3", "tie 0 1 99", f"tie 0 2 {word}", "x"], 2, 3)

    def test_tie_line_lacks_words(self):
        for k in range(1, 8):
            words = LINES[k].split(" ")
            for j in range(1, 4):
                self.check(LINES[:k] + [" ".join(words[:j])] + LINES[k + 1:], k, j)

    def test_word_too_many_in_a_tie_line(self):
        for k in range(1, 8):
            for more in ("", "7", "tie", "tie 0 1 2", "x y z", " "):
                self.check(LINES[:k] + [LINES[k] + " " + more] + LINES[k + 1:], k, 4)

    def test_sixty_first_tie(self):
        lines = web_lines(SIXTY)
        for more in ("tie 22 23 5", "tie 0 1 1", "tie", "", "x", "web 24", "tie 22 23 5 6"):
            self.check(lines + [more], 61, 0)
            self.check(lines + [more] * 39, 61, 0)
        # What can't stand ahead of it is told first.
        self.check(lines[:60] + ["tie 22 23 100", "tie 22 23 5"], 60, 3)
        self.check(lines[:60] + ["tie", "x"], 60, 1)
        self.check(["web 23"] + lines[1:] + ["x"], 23, 2)
        self.check(["web 0"] + lines[1:] + ["x"], 0, 1)

    def test_a_hundred_lines(self):
        self.check(["web 24"] * 100, 1, 0)
        self.check([""] * 100, 0, 0)
        ties = [f"tie {a} {b} 1" for a, b in PAIRS[:99]]
        self.check(["web 24"] + ties, 61, 0)

    def test_places_of_fewer_are_none(self):
        for n in range(1, 7):
            first = [k for k, tie in enumerate(WEB[1]) if max(tie[:2]) >= n][0]
            word = 1 if WEB[1][first][0] >= n else 2
            self.check([f"web {n}"] + LINES[1:], first + 1, word)

    def test_several_faults(self):
        self.check(["web 0 1", "tie"], 0, 1)
        self.check(["web 3 4", "tie 9 9 0"], 0, 2)
        self.check(["web 3", "tie 9 9 0 1"], 1, 1)
        self.check(["web 3", "tie 1 1 0 1"], 1, 2)
        self.check(["web 3", "tie 1 2 0 1"], 1, 3)
        self.check(["web 3", "tie 1 2 1 1", "tie 0 0 0 0"], 1, 4)
        self.check(["web 3", "tie 1", "tie 0 0 0 0", "x"], 1, 2)
        self.check(["web 3", "tie 01", "x"], 1, 1)


class EachWord(Reading):
    def check(self, lines):
        """As told by hand; whether the lines write a web comes back."""
        fault = web_text_fault(lines)
        if fault is None:
            ties = tuple(tuple(int(word) for word in line.split(" ")[1:]) for line in lines[1:])
            web = (int(lines[0].split(" ")[1]), ties)
            self.assertEqual(with_kinds(read_web(lines)), with_kinds(web), lines)
            self.assertIs(is_web(web), True)
        else:
            self.assertNoText(fault[0], fault[1], read_web, lines)
        return fault is None

    def test_turned_in_one_word_or_line(self):
        found = [self.check(lines) for lines in turned_lines(LINES, OTHERS)]
        self.assertGreater(found.count(True), 50)
        self.assertGreater(found.count(False), 500)

    def test_turned_twice(self):
        for lines in list(turned_lines(ROW, OTHERS))[::2]:
            for twice in turned_lines(lines, ["", "2", "03", "tie"]):
                self.check(twice)

    def test_great_webs_turned(self):
        for web in great_webs():
            for lines in itertools.islice(turned_lines(web_lines(web), ["", "0", "12", "24", "100"]), 0, None, 17):
                self.check(lines)

    def test_each_three_numbers(self):
        numbers = [str(number) for number in range(-1, 6)]
        for a, b, long in itertools.product(numbers, repeat=3):
            self.check(["web 4", f"tie {a} {b} {long}"])
            self.check(["web 4", "tie 1 2 3", f"tie {a} {b} {long}"])

    def test_each_two_of_ties(self):
        for a, b, c, d in itertools.product("01234", repeat=4):
            self.check(["web 4", f"tie {a} {b} 1", f"tie {c} {d} 1"])

    def test_webs_in_other_orders(self):
        for order in great_orders():
            lines = web_lines(SIXTY)
            self.check(lines[:1] + [lines[1 + place] for place in order])


class AskersOwn(unittest.TestCase):
    def test_list_of_its_own(self):
        first = web_lines(WEB)
        second = web_lines(WEB)
        first.append("x")
        first[0] = "web 9"
        self.assertEqual(second, LINES)
        self.assertEqual(web_lines(WEB), LINES)

    def test_handed_in_stays(self):
        lines = list(LINES)
        web = read_web(lines)
        self.assertEqual(lines, LINES)
        lines.append("x")
        lines[0] = "y"
        self.assertEqual(with_kinds(web), with_kinds(WEB))
        for wrong in (["web"], ["web 3", "tie 0 3 1"], LINES + ["x"]):
            ahead = copy.deepcopy(wrong)
            with self.assertRaises(ValueError):
                read_web(wrong)
            self.assertEqual(wrong, ahead)
        self.assertEqual(read_web(list(LINES)), WEB)


if __name__ == "__main__":
    unittest.main()
