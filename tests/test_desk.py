import itertools
import unittest

from by_hand import (
    all_orders, fault_by_hand, full_labels, great_orders, great_webs, joined_by_hand, labels_by_hand, lengths_by_hand,
    small_webs, step_by_hand, turned_labels, walk_by_hand,
)
from by_hand_lines import NO_NUMBERS, label_lines_by_hand, labels_text_fault, turned_lines, web_lines_by_hand
from checked import Reading
from labelways.desk import Desk
from labelways.errors import NoOrder, NoRow, NoTie
from labelways.labeltexts import label_lines
from labelways.webtexts import web_lines

ROW = ["web 3", "tie 0 1 2", "tie 1 2 3"]
# 0 to 3 has two ways of 5, by 1 and by 2; 4 hangs on 3; 5 and 6 lie apart.
WEB = (7, ((0, 1, 2), (0, 2, 1), (0, 3, 6), (1, 3, 3), (2, 3, 4), (3, 4, 10), (5, 6, 8)))
LINES = ["web 7", "tie 0 1 2", "tie 0 2 1", "tie 0 3 6", "tie 1 3 3", "tie 2 3 4", "tie 3 4 10", "tie 5 6 8"]
ORDER = (3, 6, 0, 5, 1, 2, 4)
PAIRS = list(itertools.combinations(range(24), 2))
SIXTY = (24, tuple((a, b, 1 + (7 * a + 5 * b) % 99) for a, b in PAIRS[:60]))
# The labels of the row by the order of its numbers.
RIGHT = ["label 0:0:-:-", "label 0:2:0:1 1:0:-:-", "label 0:5:1:1 1:3:1:2 2:0:-:-"]
NO_ROWS = [
    "", " ", "  ", "0", "x", "-", "ok", "Told 0 1", "TOLD 0 1", "tolds 0 1", "tol 0 1", "told", "told 0", "told 0 1 2",
    "told 0 1 ", "told 0  1", "told  0 1", " told 0 1", "told 0 1 x", "told a b", "told 0 a", "told a 0", "told 0,1",
    "told -1 0", "told 0 -", "told 01 0", "told 0 00", "told 0 +1", "told 10000 0", "told 0 12345", "told\t0 1", "step",
    "step 0", "step 0 1 2", "step 0 1 ", "step 00 1", "step 0 99999", "walk", "walk 0", "walk 0 1 2", "walk 0 x",
    "walk 0  1", "walk 10000 1", "label", "label ", "label 0 1", "label 0 ", "label  0", "label x", "label 00",
    "label 10000", "label 0:0:-:-", "total ", " total", "total 0", "totals", "total total", "web ", " web", "web 3",
    "web 0", "webs", "put", "put 0", "put 0 1", "put 0 1 ", "put 0 1 2 3", "put 0 1 2 ", "put 0  1 2", "put 0 1 0",
    "put 0 1 100", "put 0 1 999", "put 0 1 9999", "put 0 1 10000", "put 0 1 01", "put 0 1 -1", "put 0 1 x", "put 0 x 1",
    "put x 0 1", "put 00 1 1", "put 0 01 1", "put 10000 1 1", "put 0 10000 1", "put 0 1 -", "strike", "strike 0",
    "strike 0 1 2", "strike 0 1 ", "strike 0  1", "strike 0 x", "strike 00 1", "strike 0 10000", "strike - 1", "order",
    "order ", "order  0 1 2", "order 0 1  2", "order 0 1 2 ", "order 0 1 x", "order 0 1 02", "order 0 1 -2",
    "order 0 1 10000", "order 00", "order -", "order 0,1,2", "order (0, 1, 2)", "check", "checks", "Check ", " check ",
    "check;", "Check " + RIGHT[0], "check\t" + RIGHT[0], "tie 0 1 2", "keep", "exit", "x" * 20000,
    "order " + "x" * 19000, "order 0 1 " + "2" * 19000, "told 0 " + "0" * 19000, " " * 20000,
    "told" + " 0" * 9000, "total" + " " * 9000,
]


def lines_of(n):
    return [f"web {n}"] + [f"tie {k} {k + 1} 5" for k in range(n - 1)]


def told_word(number):
    return "-" if number is None else str(number)


def told_words(numbers):
    return " ".join(str(number) for number in numbers) if numbers else "-"


class DeskByHand:
    """A desk's web and order, with the answers that the document asks for."""

    def __init__(self, web, order=None):
        self.web = web
        self.order = tuple(range(web[0])) if order is None else order

    def labels(self):
        return labels_by_hand(self.web, self.order)

    def turn(self, one, other, long):
        """The tie between the two is so long, or gone where long is None; the row's answer."""
        ahead = self.labels()
        ties = {tie[:2]: tie[2] for tie in self.web[1]}
        ties.pop((min(one, other), max(one, other)), None)
        if long is not None:
            ties[min(one, other), max(one, other)] = long
        self.web = (self.web[0], tuple(sorted((a, b, ties[a, b]) for a, b in ties)))
        return told_words([place for place, label in enumerate(self.labels()) if label != ahead[place]])

    def check(self, labels):
        if len(labels) != self.web[0]:
            return "shape"
        fault = fault_by_hand(self.web, labels)
        return "ok" if fault is None else fault[0]

    def rows(self):
        """Each row that only asks, with its answer."""
        labels = self.labels()
        rows = lengths_by_hand(self.web)
        found = {"web": "; ".join(web_lines_by_hand(self.web)), "total": str(sum(len(label) for label in labels))}
        for one, other in itertools.product(range(self.web[0]), repeat=2):
            found[f"told {one} {other}"] = told_word(rows[one][other])
            found[f"step {one} {other}"] = told_word(step_by_hand(labels, one, other))
            found[f"walk {one} {other}"] = told_words(walk_by_hand(labels, one, other))
        for place, line in enumerate(label_lines_by_hand(labels)):
            found[f"label {place}"] = line
        return found


class AtADesk(Reading):
    """What the tests below share."""

    def assertSays(self, desk, row, asked):
        found = desk.say(row)
        self.assertIs(type(found), str)
        self.assertEqual(found, asked, row[:200])

    def assertKeeps(self, desk, by_hand):
        """All that the desk can be asked is as told by hand."""
        for row, asked in by_hand.rows().items():
            self.assertSays(desk, row, asked)

    def assertNoRow(self, desk, row):
        self.assertRefused(NoRow, desk.say, row)

    def assertNoTie(self, desk, row):
        self.assertRefused(NoTie, desk.say, row)

    def assertNoOrder(self, desk, row):
        self.assertRefused(NoOrder, desk.say, row)


class Made(AtADesk):
    def test_order_is_at_first_that_of_the_numbers(self):
        self.assertKeeps(Desk(LINES), DeskByHand(WEB))
        for web in itertools.islice(small_webs(), 0, None, 40):
            self.assertKeeps(Desk(web_lines(web)), DeskByHand(web))

    def test_great_webs(self):
        for web in list(great_webs()) + [SIXTY]:
            self.assertKeeps(Desk(web_lines(web)), DeskByHand(web))

    def test_one_place(self):
        desk = Desk(["web 1"])
        self.assertSays(desk, "web", "web 1")
        self.assertSays(desk, "label 0", "label 0:0:-:-")
        self.assertSays(desk, "total", "1")
        self.assertSays(desk, "told 0 0", "0")
        self.assertSays(desk, "step 0 0", "-")
        self.assertSays(desk, "walk 0 0", "0")
        self.assertSays(desk, "order 0", "ok")
        self.assertSays(desk, "check label 0:0:-:-", "ok")

    def test_lines_that_write_no_web(self):
        self.assertNoText(0, 0, Desk, [])
        self.assertNoText(0, 0, Desk, [""])
        self.assertNoText(0, 1, Desk, ["web"])
        self.assertNoText(0, 1, Desk, ["web 25"])
        self.assertNoText(0, 2, Desk, ["web 3 "])
        self.assertNoText(1, 0, Desk, ["web 3", ""])
        self.assertNoText(1, 3, Desk, ["web 3", "tie 0 1 100"])
        self.assertNoText(2, 2, Desk, ["web 3", "tie 0 1 2", "tie 0 1 2"])
        self.assertNoText(61, 0, Desk, web_lines(SIXTY) + ["tie 22 23 1"])

    def test_lines_stay_and_are_not_kept(self):
        lines = list(ROW)
        desk = Desk(lines)
        self.assertEqual(lines, ROW)
        lines.append("tie 0 2 1")
        lines[0] = "x"
        self.assertSays(desk, "web", "web 3; tie 0 1 2; tie 1 2 3")
        desk.say("put 0 2 9")
        self.assertEqual(lines, ["x"] + ROW[1:] + ["tie 0 2 1"])


class Asked(AtADesk):
    def test_row(self):
        desk = Desk(ROW)
        for row, asked in [
            ("told 0 2", "5"), ("told 2 0", "5"), ("told 1 2", "3"), ("told 1 1", "0"), ("step 0 2", "1"),
            ("step 2 0", "1"), ("step 0 1", "1"), ("step 1 1", "-"), ("walk 0 2", "0 1 2"), ("walk 2 0", "2 1 0"),
            ("walk 1 1", "1"), ("label 0", "label 0:0:-:-"), ("label 1", "label 0:2:0:1 1:0:-:-"),
            ("label 2", "label 0:5:1:1 1:3:1:2 2:0:-:-"), ("total", "6"), ("web", "web 3; tie 0 1 2; tie 1 2 3"),
        ]:
            self.assertSays(desk, row, asked)

    def test_no_way(self):
        desk = Desk(LINES)
        for one, other in itertools.product(range(5), (5, 6)):
            for word in ("told", "step", "walk"):
                self.assertSays(desk, f"{word} {one} {other}", "-")
                self.assertSays(desk, f"{word} {other} {one}", "-")

    def test_web_without_ties(self):
        desk = Desk(["web 24"])
        self.assertSays(desk, "web", "web 24")
        self.assertSays(desk, "total", "24")
        self.assertSays(desk, "label 23", "label 23:0:-:-")
        self.assertSays(desk, "walk 0 23", "-")
        self.assertSays(desk, "walk 23 23", "23")

    def test_answers_of_more_figures(self):
        lines = ["web 24"] + [f"tie {k} {k + 1} 99" for k in range(23)]
        desk = Desk(lines)
        self.assertSays(desk, "told 0 23", "2277")
        self.assertSays(desk, "walk 0 23", " ".join(str(k) for k in range(24)))
        self.assertSays(desk, "total", "300")
        self.assertSays(desk, "web", "; ".join(lines))


class Orders(AtADesk):
    def test_row(self):
        desk = Desk(ROW)
        self.assertSays(desk, "order 1 0 2", "ok")
        self.assertSays(desk, "total", "5")
        self.assertSays(desk, "label 0", "label 0:0:-:- 1:2:1:0")
        self.assertSays(desk, "label 1", "label 1:0:-:-")
        self.assertSays(desk, "order 2 1 0", "ok")
        self.assertSays(desk, "label 0", "label 0:0:-:- 1:2:1:0 2:5:1:1")
        self.assertSays(desk, "label 2", "label 2:0:-:-")

    def test_each_order(self):
        web = (4, ((0, 1, 2), (0, 2, 1), (1, 3, 3), (2, 3, 4)))
        desk = Desk(web_lines(web))
        for order in all_orders(4):
            self.assertSays(desk, "order " + told_words(order), "ok")
            self.assertKeeps(desk, DeskByHand(web, order))

    def test_great_orders(self):
        for web, order in zip(great_webs(), itertools.cycle(great_orders())):
            desk = Desk(web_lines(web))
            self.assertSays(desk, "order " + told_words(order), "ok")
            self.assertKeeps(desk, DeskByHand(web, order))

    def test_of_the_web_as_it_is(self):
        desk = Desk(ROW)
        desk.say("put 0 2 1")
        desk.say("strike 1 2")
        self.assertSays(desk, "order 2 0 1", "ok")
        self.assertSays(desk, "web", "web 3; tie 0 1 2; tie 0 2 1")
        self.assertKeeps(desk, DeskByHand((3, ((0, 1, 2), (0, 2, 1))), (2, 0, 1)))

    def test_order_is_kept_as_ties_are_put_and_struck(self):
        desk = Desk(ROW)
        by_hand = DeskByHand((3, ((0, 1, 2), (1, 2, 3))), (2, 0, 1))
        desk.say("order 2 0 1")
        self.assertSays(desk, "strike 0 1", "0 1")
        self.assertEqual(by_hand.turn(0, 1, None), "0 1")
        self.assertKeeps(desk, by_hand)
        self.assertSays(desk, "put 1 0 9", by_hand.turn(0, 1, 9))
        self.assertKeeps(desk, by_hand)
        self.assertSays(desk, "order 0 2 1", "ok")
        by_hand.order = (0, 2, 1)
        self.assertSays(desk, "put 0 2 4", by_hand.turn(0, 2, 4))
        self.assertKeeps(desk, by_hand)


class PutAndStruck(AtADesk):
    def test_row(self):
        desk = Desk(ROW)
        self.assertSays(desk, "put 0 2 4", "2")
        self.assertSays(desk, "web", "web 3; tie 0 1 2; tie 0 2 4; tie 1 2 3")
        self.assertSays(desk, "told 0 2", "4")
        self.assertSays(desk, "put 2 0 99", "2")
        self.assertSays(desk, "web", "web 3; tie 0 1 2; tie 0 2 99; tie 1 2 3")
        self.assertSays(desk, "put 0 2 98", "-")
        self.assertSays(desk, "strike 2 0", "-")
        self.assertSays(desk, "strike 0 1", "1 2")
        self.assertSays(desk, "strike 1 2", "2")
        self.assertSays(desk, "web", "web 3")
        self.assertSays(desk, "told 0 2", "-")

    def test_whichever_is_named_first(self):
        for rows in (["put 0 2 1", "strike 1 2"], ["put 2 0 1", "strike 2 1"]):
            desk = Desk(ROW)
            self.assertEqual([desk.say(row) for row in rows], ["2", "-"])
            self.assertKeeps(desk, DeskByHand((3, ((0, 1, 2), (0, 2, 1)))))

    def test_each_long(self):
        for long in range(1, 100):
            desk = Desk(ROW)
            by_hand = DeskByHand((3, ((0, 1, 2), (1, 2, 3))))
            self.assertSays(desk, f"put 0 2 {long}", by_hand.turn(0, 2, long))
            self.assertKeeps(desk, by_hand)

    def check_deeds(self, web, count, step):
        """Rows of deeds by crosswise numbers, with an order now and then."""
        n = web[0]
        desk = Desk(web_lines(web))
        by_hand = DeskByHand(web)
        orders = itertools.cycle([tuple((5 * k + 2) % n for k in range(n)), tuple(reversed(range(n)))])
        for k in range(count):
            one = (step * k + k * k // 3) % n
            other = (one + 1 + (k * step + k // 5) % (n - 1)) % n
            tied = (one, other) in joined_by_hand(by_hand.web)
            if k % 6 == 5:
                by_hand.order = next(orders)
                self.assertSays(desk, "order " + told_words(by_hand.order), "ok")
            elif tied and k % 2:
                self.assertSays(desk, f"strike {one} {other}", by_hand.turn(one, other, None))
            elif tied or len(by_hand.web[1]) < 60:
                long = 1 + (k * step) % (99 if k % 3 else 4)
                self.assertSays(desk, f"put {one} {other} {long}", by_hand.turn(one, other, long))
            else:
                self.assertNoTie(desk, f"put {one} {other} 1")
            if k % 8 == 7:
                self.assertKeeps(desk, by_hand)

    def test_rows_of_deeds(self):
        self.check_deeds(WEB, 160, 3)
        self.check_deeds((4, ()), 160, 5)

    def test_rows_of_deeds_in_great_webs(self):
        for web in great_webs():
            self.check_deeds(web, 24, 7)


class Checks(AtADesk):
    def check_row(self, desk, lines, asked):
        self.assertSays(desk, "check " + "; ".join(lines), asked)

    def test_each_word(self):
        desk = Desk(ROW)
        self.check_row(desk, RIGHT, "ok")
        self.check_row(desk, RIGHT[:2], "shape")
        self.check_row(desk, RIGHT + ["label 3:0:-:-"], "shape")
        self.check_row(desk, ["label 0:0:-:-"], "shape")
        self.check_row(desk, [RIGHT[1], "label 0:0:-:-", RIGHT[2]], "own")
        self.check_row(desk, RIGHT[:2] + ["label 0:5:0:1 1:3:1:2 2:0:-:-"], "up")
        self.check_row(desk, RIGHT[:2] + ["label 0:6:1:1 1:3:1:2 2:0:-:-"], "up")
        self.check_row(desk, RIGHT[:2] + ["label 1:3:1:2 2:0:-:-"], "tie")
        self.check_row(desk, RIGHT[:2] + ["label 0:5:1:2 1:3:1:2 2:0:-:-"], "down")

    def test_long_of_twelve_figures(self):
        desk = Desk(ROW)
        self.check_row(desk, RIGHT[:2] + ["label 0:999999999999:1:1 1:3:1:2 2:0:-:-"], "up")
        self.assertNoText(2, 1, desk.say, "check " + "; ".join(RIGHT[:2] + ["label 0:1000000000000:1:1 2:0:-:-"]))

    def test_labels_by_any_order(self):
        web = (4, ((0, 1, 2), (0, 2, 1), (1, 3, 3), (2, 3, 4)))
        desk = Desk(web_lines(web))
        for order in all_orders(4):
            self.check_row(desk, label_lines(labels_by_hand(web, order)), "ok")

    def test_labels_by_no_order(self):
        for web in [WEB] + list(great_webs()):
            self.check_row(Desk(web_lines(web)), label_lines(full_labels(web)), "ok")

    def test_what_the_desk_tells_is_let_by(self):
        for web in [WEB, (1, ()), SIXTY] + list(great_webs()):
            desk = Desk(web_lines(web))
            self.check_row(desk, [desk.say(f"label {place}") for place in range(web[0])], "ok")

    def test_labels_of_another_web(self):
        desk = Desk(LINES)
        words = []
        for web in itertools.islice(small_webs(), 0, None, 30):
            words.append(DeskByHand(WEB).check(labels_by_hand((7, web[1]), ORDER)))
            self.check_row(desk, label_lines(labels_by_hand((7, web[1]), ORDER)), words[-1])
        self.assertEqual(sorted(set(words)), ["tie", "up"])
        self.check_row(desk, label_lines(labels_by_hand((8, WEB[1]), ORDER + (7,))), "shape")

    def test_turned_labels(self):
        by_hand = DeskByHand((3, ((0, 1, 2), (1, 2, 3))))
        desk = Desk(ROW)
        words = []
        for labels in turned_labels(3, labels_by_hand(by_hand.web, (0, 1, 2))):
            words.append(by_hand.check(labels))
            self.check_row(desk, label_lines(labels), words[-1])
        self.assertEqual(sorted(set(words)), ["down", "ok", "tie", "up"])

    def test_for_the_web_as_it_is(self):
        desk = Desk(ROW)
        desk.say("put 0 2 1")
        self.check_row(desk, RIGHT, "tie")
        desk.say("strike 1 2")
        self.check_row(desk, RIGHT, "up")
        desk.say("strike 0 2")
        desk.say("put 1 2 3")
        self.check_row(desk, RIGHT, "ok")
        desk.say("order 2 0 1")
        self.check_row(desk, RIGHT, "ok")

    def test_lines_that_write_none(self):
        desk = Desk(ROW)
        for row, line, word in [
            ("check ", 0, 0), ("check  ", 0, 0), ("check x", 0, 0), ("check label", 0, 1), ("check label ", 0, 1),
            ("check  label 0:0:-:-", 0, 0), ("check label 0:0:-:- ", 0, 2), ("check label 0:0:-:-;", 0, 1),
            ("check label 0:0:-:-; ", 1, 0), ("check label 0:0:-:-;  ", 1, 0), ("check ; label 0:0:-:-", 0, 0),
            ("check label 0:0:-:-;label 1:0:-:-", 0, 1), ("check label 0:0:-:- ; label 1:0:-:-", 0, 2),
            ("check label 0:0:-:-;  label 1:0:-:-", 1, 0), ("check label 0:0:-:-; label 2:0:-:-", 1, 1),
            ("check label 0:0:-:-; label 1:0:-:-; label", 2, 1), ("check label 0:0:-:-; x; label 2:0:-:-", 1, 0),
            ("check check label 0:0:-:-", 0, 0), ("check web 3; tie 0 1 2", 0, 0), ("check ;", 0, 0),
            ("check ; ; ", 0, 0), ("check; label 0:0:-:-; ", None, None),
        ]:
            if line is None:
                self.assertNoRow(desk, row)
            else:
                self.assertNoText(line, word, desk.say, row)

    def test_numbers_as_in_lines_not_as_in_rows(self):
        desk = Desk(ROW)
        for long in ("10000", "12345", "999999999999"):
            self.check_row(desk, RIGHT[:2] + [f"label 0:{long}:1:1 1:3:1:2 2:0:-:-"], "up")
        for wrong in NO_NUMBERS:
            lines = RIGHT[:2] + [f"label {wrong}:5:1:1 1:3:1:2 2:0:-:-"]
            if " " not in wrong and len(wrong) < 19000:
                self.assertNoText(2, 1, desk.say, "check " + "; ".join(lines))

    def test_twenty_fifth_line(self):
        desk = Desk(["web 24"])
        lines = [f"label {k}:0:-:-" for k in range(24)]
        self.check_row(desk, lines, "ok")
        self.assertNoText(24, 0, desk.say, "check " + "; ".join(lines + ["label 24:0:-:-"]))
        self.assertNoText(24, 0, desk.say, "check " + "; ".join(["label 0:0:-:-"] * 100))

    def test_turned_lines(self):
        desk = Desk(ROW)
        by_hand = DeskByHand((3, ((0, 1, 2), (1, 2, 3))))
        for lines in turned_lines(RIGHT, ["", "1:0:-:-", "2:5:0:0", "1:5:0:1", "label", ":", "3:0:-:-"]):
            fault = labels_text_fault(lines)
            if fault is not None:
                self.assertNoText(fault[0], fault[1], desk.say, "check " + "; ".join(lines))
        self.assertKeeps(desk, by_hand)

    def test_a_great_row(self):
        web = (24, tuple((k, k + 1, 99) for k in range(23)))
        lines = label_lines(full_labels(web))
        self.assertGreater(len("; ".join(lines)), 5000)
        self.check_row(Desk(web_lines(web)), lines, "ok")


class Refused(AtADesk):
    def test_no_rows(self):
        desk = Desk(ROW)
        for row in NO_ROWS:
            self.assertNoRow(desk, row)
        self.assertKeeps(desk, DeskByHand((3, ((0, 1, 2), (1, 2, 3)))))

    def test_words_that_are_no_numbers(self):
        desk = Desk(ROW)
        for wrong in ["", "-", "a", "10000", "99999"] + NO_NUMBERS:
            for row in ("told {} 0", "told 0 {}", "step {} 1", "step 0 {}", "walk {} 1", "walk 1 {}", "label {}",
                        "put {} 1 1", "put 0 {} 1", "put 0 1 {}", "strike {} 1", "strike 0 {}", "order {}",
                        "order {} 1 2", "order 0 1 {}", "order 0 1 2 {}"):
                self.assertNoRow(desk, row.replace("{}", wrong))
        self.assertKeeps(desk, DeskByHand((3, ((0, 1, 2), (1, 2, 3)))))

    def test_rows_with_blanks_too_many_or_lacking(self):
        desk = Desk(ROW)
        for row in ("told 0 1", "step 0 1", "walk 0 1", "label 0", "total", "web", "put 0 1 2", "strike 0 1",
                    "order 0 1 2"):
            self.assertNoRow(desk, " " + row)
            self.assertNoRow(desk, row + " ")
            for k, sign in enumerate(row):
                if sign == " ":
                    self.assertNoRow(desk, row[:k] + " " + row[k:])
            self.assertNoRow(desk, row.replace(" ", "") + "x")
            if " " in row:
                self.assertNoRow(desk, row.replace(" ", "", 1))
        self.assertKeeps(desk, DeskByHand((3, ((0, 1, 2), (1, 2, 3)))))

    def test_number_of_no_place(self):
        desk = Desk(ROW)
        for wrong in (3, 4, 10, 23, 24, 99, 100, 999, 1000, 9999):
            for row in ("told {} 0", "told 0 {}", "told {} {}", "step {} 1", "step 0 {}", "step {} {}", "walk {} 1",
                        "walk 1 {}", "walk {} {}", "label {}", "put {} 1 1", "put 0 {} 99", "put {} {} 5",
                        "strike {} 1", "strike 0 {}", "strike {} {}"):
                self.assertNoTie(desk, row.replace("{}", str(wrong)))
        self.assertKeeps(desk, DeskByHand((3, ((0, 1, 2), (1, 2, 3)))))

    def test_last_place_and_one_beyond(self):
        for n in range(1, 25):
            desk = Desk(lines_of(n))
            self.assertSays(desk, f"told {n - 1} 0", str(5 * (n - 1)))
            self.assertNoTie(desk, f"told {n} 0")
            self.assertNoTie(desk, f"told 0 {n}")
            self.assertNoTie(desk, f"label {n}")
            self.assertNoTie(desk, f"put 0 {n} 1")
            self.assertNoOrder(desk, "order " + told_words(range(1, n + 1)))

    def test_no_ties(self):
        desk = Desk(ROW)
        for row in ("put 0 0 1", "put 2 2 99", "strike 1 1", "strike 0 2", "strike 2 0"):
            self.assertNoTie(desk, row)
        self.assertKeeps(desk, DeskByHand((3, ((0, 1, 2), (1, 2, 3)))))
        desk.say("strike 0 1")
        self.assertNoTie(desk, "strike 0 1")
        self.assertNoTie(desk, "strike 1 0")
        self.assertKeeps(desk, DeskByHand((3, ((1, 2, 3),))))

    def test_sixty_first_tie(self):
        desk = Desk(web_lines(SIXTY))
        for a, b in PAIRS[60::20]:
            self.assertNoTie(desk, f"put {a} {b} 1")
            self.assertNoTie(desk, f"put {b} {a} 1")
        self.assertKeeps(desk, DeskByHand(SIXTY))
        by_hand = DeskByHand(SIXTY)
        self.assertSays(desk, "put 1 0 98", by_hand.turn(0, 1, 98))
        self.assertSays(desk, "strike 0 1", by_hand.turn(0, 1, None))
        self.assertSays(desk, "put 22 23 1", by_hand.turn(22, 23, 1))
        self.assertNoTie(desk, "put 0 1 1")
        self.assertKeeps(desk, by_hand)

    def test_no_orders(self):
        desk = Desk(ROW)
        desk.say("order 2 0 1")
        for row in ("order 0", "order 0 1", "order 0 1 2 3", "order 0 1 2 0", "order 0 0 1", "order 1 1 1",
                    "order 0 1 3", "order 1 2 3", "order 0 1 9999", "order 9999", "order 3", "order" + " 0 1 2" * 3000,
                    "order" + " 9999" * 3000):
            self.assertNoOrder(desk, row)
        self.assertKeeps(desk, DeskByHand((3, ((0, 1, 2), (1, 2, 3))), (2, 0, 1)))

    def test_no_row_is_told_ahead_of_all_else(self):
        desk = Desk(ROW)
        for row in ("told 9 x", "told 9 9 9", "told 9", "step 9 01", "walk 10000 9", "label 9 9", "put 9 9 0",
                    "put 9 9 100", "put 0 0 100", "put 3 3 x", "strike 9 9 9", "strike 0 2 ", "order 9 9 x",
                    "order 0 0 ", "order 0 1 2 10000"):
            self.assertNoRow(desk, row)
        self.assertKeeps(desk, DeskByHand((3, ((0, 1, 2), (1, 2, 3)))))

    def test_refused_behind_deeds(self):
        desk = Desk(LINES)
        by_hand = DeskByHand(WEB, ORDER)
        desk.say("order " + told_words(ORDER))
        desk.say("put 4 6 2")
        by_hand.turn(4, 6, 2)
        for row in ("put 0 0 1", "put 0 7 1", "put 0 1 0", "strike 0 5", "strike 7 0", "order 0 1 2", "order x",
                    "told 7 0", "check", "check x", "check label 0:0:-:-; x", "", "web 7"):
            with self.assertRaises(ValueError):
                desk.say(row)
            self.assertKeeps(desk, by_hand)


class AskersOwn(AtADesk):
    def test_asking_turns_nothing(self):
        desk = Desk(LINES)
        by_hand = DeskByHand(WEB)
        for k in range(2):
            self.assertKeeps(desk, by_hand)
            for labels in (full_labels(WEB), labels_by_hand(WEB, ORDER), labels_by_hand((7, ()), ORDER)):
                desk.say("check " + "; ".join(label_lines(labels)))
        self.assertSays(desk, "put 3 4 9", by_hand.turn(3, 4, 9))
        self.assertKeeps(desk, by_hand)

    def test_two_desks_by_turns(self):
        desks = [Desk(LINES), Desk(LINES), Desk(LINES)]
        by_hand = [DeskByHand(WEB), DeskByHand(WEB), DeskByHand(WEB)]
        orders = [ORDER, ORDER[::-1]]
        for k, deed in enumerate([(4, 6, 2), (0, 1, None), (0, 6, 1), (5, 6, None), (2, 3, 99), (1, 3, None)]):
            turn = k % 2
            one, other, long = deed
            row = f"strike {one} {other}" if long is None else f"put {one} {other} {long}"
            self.assertSays(desks[turn], row, by_hand[turn].turn(one, other, long))
            if k in (2, 3):
                by_hand[turn].order = orders[turn]
                self.assertSays(desks[turn], "order " + told_words(orders[turn]), "ok")
            self.assertNoTie(desks[1 - turn], "put 3 3 3")
            for desk, asked in zip(desks, by_hand):
                self.assertKeeps(desk, asked)
        self.assertEqual(by_hand[2].web, WEB)

    def test_made_of_what_another_one_tells(self):
        one = Desk(LINES)
        one.say("put 4 6 2")
        other = Desk(one.say("web").split("; "))
        self.assertEqual(other.say("web"), one.say("web"))
        one.say("strike 4 6")
        self.assertKeeps(one, DeskByHand(WEB))
        self.assertKeeps(other, DeskByHand((7, WEB[1][:-1] + ((4, 6, 2),) + WEB[1][-1:])))


if __name__ == "__main__":
    unittest.main()
