import copy
import itertools
import unittest

from by_hand import (
    all_orders, full_labels, great_orders, great_webs, labels_by_hand, own, small_webs, turned_labels, with_kinds,
)
from by_hand_lines import NO_NUMBERS, label_lines_by_hand, labels_text_fault, turned_lines
from checked import Reading
from labelways.labels import are_labels
from labelways.labeltexts import label_lines, read_labels

ROW = (3, ((0, 1, 2), (1, 2, 3)))
# The labels of the row by (2, 0, 1).
LABELS = ((own(0), (2, 5, 1, 1)), ((0, 2, 0, 1), own(1), (2, 3, 2, 1)), (own(2),))
LINES = ["label 0:0:-:- 2:5:1:1", "label 0:2:0:1 1:0:-:- 2:3:2:1", "label 2:0:-:-"]
MANY = ["label 23:0:-:-"] * 24
OTHERS = [
    "", "label", "0:0:-:-", "1:0:-:-", "2:0:-:-", "3:0:-:-", "0:1:0:0", "1:7:0:2", "2:9:2:2", "2:999999999999:0:1",
    "2:1000000000000:0:1", "1:5:3:0", "1:5:0:3", "1:0:0:0", "1:5:-:-", "1:5:-:0", "1:0:-:0", "1:5:0", "1:5:0:0:0",
]


def read_by_hand(lines):
    """The labels of lines that write some."""
    found = []
    for line in lines:
        entries = [word.split(":") for word in line.split(" ")[1:]]
        found.append(tuple(tuple(None if part == "-" else int(part) for part in parts) for parts in entries))
    return tuple(found)


class LabelLines(unittest.TestCase):
    def check(self, labels, asked):
        self.assertEqual(with_kinds(label_lines(labels)), with_kinds(asked), labels)

    def test_some_labels(self):
        self.assertEqual(labels_by_hand(ROW, (2, 0, 1)), LABELS)
        self.check(LABELS, LINES)
        self.check(((own(0),),), ["label 0:0:-:-"])
        self.check(((own(0), (1, 5, 1, 0)), (own(1),)), ["label 0:0:-:- 1:5:1:0", "label 1:0:-:-"])

    def test_whatever_their_own_places(self):
        self.check(((own(1),), (own(0),)), ["label 1:0:-:-", "label 0:0:-:-"])
        self.check((((0, 12, 1, 1), own(1)),) * 2, ["label 0:12:1:1 1:0:-:-"] * 2)

    def test_great_longs(self):
        labels = ((own(0), (1, 10 ** 12 - 1, 1, 0)), ((0, 10 ** 11, 0, 1), own(1)))
        self.check(labels, ["label 0:0:-:- 1:999999999999:1:0", "label 0:100000000000:0:1 1:0:-:-"])

    def test_each_small_web(self):
        for web, order in zip(small_webs(), itertools.cycle(all_orders(4))):
            labels = labels_by_hand(web, order)
            self.check(labels, label_lines_by_hand(labels))

    def test_great_webs(self):
        for web, order in zip(great_webs(), itertools.cycle(great_orders())):
            for labels in (labels_by_hand(web, order), full_labels(web)):
                self.check(labels, label_lines_by_hand(labels))


class ReadLabels(unittest.TestCase):
    def check(self, lines, asked):
        self.assertEqual(with_kinds(read_labels(lines)), with_kinds(asked), lines)

    def test_some_labels(self):
        self.check(LINES, LABELS)
        self.check(["label 0:0:-:-"], ((own(0),),))
        self.check(["label 0:0:-:- 1:5:1:0", "label 1:0:-:-"], ((own(0), (1, 5, 1, 0)), (own(1),)))

    def test_whatever_their_own_places(self):
        for one, other in itertools.product(range(2), repeat=2):
            self.check([f"label {one}:0:-:-", f"label {other}:0:-:-"], ((own(one),), (own(other),)))

    def test_up_and_down_may_be_any_places(self):
        for up, down in itertools.product(range(3), repeat=2):
            lines = [f"label 0:0:-:- 1:4:{up}:{down}"] + LINES[1:]
            self.check(lines, ((own(0), (1, 4, up, down)),) + LABELS[1:])

    def test_own_entry_may_stand_anywhere(self):
        entries = ["0:4:0:0", "1:5:1:1", "2:6:2:2"]
        for k in range(3):
            words = entries[:k] + [f"{k}:0:-:-"] + entries[k + 1:]
            label = tuple(own(j) if j == k else (j, j + 4, j, j) for j in range(3))
            self.check([" ".join(["label"] + words)] * 3, (label,) * 3)

    def test_longs_of_up_to_twelve_figures(self):
        for long in [1, 9, 10, 99, 100, 9999, 10 ** 11, 123456789012, 10 ** 12 - 1]:
            self.check(["label 0:0:-:- 1:" + str(long) + ":1:0", LINES[2].replace("2", "1")], (
                (own(0), (1, long, 1, 0)), (own(1),),
            ))

    def test_twenty_four_lines(self):
        self.check(MANY, ((own(23),),) * 24)
        words = ["label"] + ["11:0:-:-" if k == 11 else f"{k}:{k + 1}:23:0" for k in range(24)]
        label = tuple(own(11) if k == 11 else (k, k + 1, 23, 0) for k in range(24))
        self.check([" ".join(words)] * 24, (label,) * 24)

    def test_read_again_as_they_were(self):
        for web, order in zip(small_webs(), itertools.cycle(all_orders(4))):
            labels = labels_by_hand(web, order)
            self.check(label_lines(labels), labels)
        for web, order in zip(great_webs(), itertools.cycle(great_orders())):
            for labels in (labels_by_hand(web, order), full_labels(web)):
                self.check(label_lines(labels), labels)
                self.assertEqual(label_lines(read_labels(label_lines(labels))), label_lines(labels))

    def test_turned_labels_read_again_as_they_were(self):
        for labels in turned_labels(3, LABELS):
            self.check(label_lines(labels), labels)


class NoLabelsThere(Reading):
    def check(self, lines, line, word):
        self.assertNoText(line, word, read_labels, lines)

    def check_word(self, word):
        """The word can't stand behind an entry of hub 0, in any of three lines."""
        lines = ["label 2:0:-:-"] * 3
        for k in range(3):
            self.check(lines[:k] + ["label 0:5:0:0 " + word] + lines[k + 1:], k, 2)
            self.check(lines[:k] + ["label 0:5:0:0 " + word + " 2:0:-:-"] + ["x"] * (2 - k), k, 2)

    def test_no_line_at_all(self):
        self.check([], 0, 0)

    def test_first_word(self):
        for word in ("", "Label", "LABEL", "labels", "labe", "web", "tie", "0", "label:", "0:0:-:-", "x" * 1980):
            for k in range(3):
                self.check(LINES[:k] + [word] + LINES[k + 1:], k, 0)
                self.check(LINES[:k] + [word + " 0:0:-:-"] + LINES[k + 1:], k, 0)
                self.check(LINES[:k] + [word + " x"] + ["x"] * (2 - k), k, 0)

    def test_line_lacks_words(self):
        for k in range(3):
            self.check(LINES[:k] + ["label"] + LINES[k + 1:], k, 1)
            self.check(LINES[:k] + ["label 0:5:1:1"] + LINES[k + 1:], k, 2)
            self.check(LINES[:k] + ["label 0:5:1:1 1:7:0:0"] + LINES[k + 1:], k, 3)
            # Though no word more can stand behind the last place.
            self.check(LINES[:k] + ["label 0:5:1:1 1:7:0:0 2:3:0:1"] + LINES[k + 1:], k, 4)
            self.check(LINES[:k] + ["label 2:5:1:1"] + LINES[k + 1:], k, 2)
        self.check(["label"], 0, 1)
        self.check(["label 0:1:0:0"], 0, 2)
        self.check(["label", "x"], 0, 1)

    def test_blanks(self):
        for k in range(3):
            words = LINES[k].split(" ")
            for j in range(len(words) + 1):
                line = " ".join(words[:j] + [""] + words[j:])
                self.check(LINES[:k] + [line] + LINES[k + 1:], k, j)
        self.check(["label "], 0, 1)
        self.check([" label 0:0:-:-"], 0, 0)
        self.check(["label 0:0:-:- "], 0, 2)
        self.check(["label  0:0:-:-"], 0, 1)
        self.check(["label 0: 0:-:-"], 0, 1)
        self.check(["label 0:0 :-:-"], 0, 1)
        self.check([" "], 0, 0)
        self.check([""], 0, 0)

    def test_count_of_parts(self):
        for word in ("", ":", "::", ":::", "::::", "1", "1:5", "1:5:0", "1:5:0:", "1:5:0:0:", "1:5:0:0:0", ":1:5:0:0",
                     "1:0", "1:0:-", "1:0:-:-:", "1:0:-:-:-", "1::5:0:0", "1;5;0;0", "1.5.0.0", "1-5-0-0", "1,5,0,0"):
            self.check_word(word)

    def test_hub_that_is_no_number(self):
        for hub in ["", "-", "a"] + NO_NUMBERS:
            self.check_word(hub + ":5:0:0")
            self.check_word(hub + ":0:-:-")
            self.check(["label " + hub + ":0:-:-"], 0, 1)

    def test_hub_not_below_how_many_lines_there_are(self):
        for hub in ("3", "4", "9", "10", "24", "12345678901234567890"):
            self.check_word(hub + ":5:0:0")
            self.check_word(hub + ":0:-:-")
        for n in range(1, 25):
            lines = [f"label {n - 1}:0:-:-"] * n
            self.assertEqual(read_labels(lines), ((own(n - 1),),) * n)
            self.check(lines[1:] + [f"label {n}:0:-:-"], n - 1, 1)
        for n in range(2, 24):
            self.check([f"label {n - 1}:0:-:-"] * (n - 1), 0, 1)

    def test_hub_not_above_the_one_ahead(self):
        self.check_word("0:0:-:-")
        self.check_word("0:5:0:0")
        self.check(["label 1:0:-:- 0:5:0:0"] + LINES[1:], 0, 2)
        self.check(["label 0:0:-:- 2:5:0:0 1:5:0:0"] + LINES[1:], 0, 3)
        self.check(["label 0:0:-:- 2:5:0:0 2:5:0:0"] + LINES[1:], 0, 3)
        self.check(["label 10:5:0:0 9:0:-:-"] + MANY[1:], 0, 2)

    def test_long_that_is_no_number(self):
        for long in ["", "-", "a"] + NO_NUMBERS:
            if not (long.isascii() and long.isdigit() and long[0] != "0"):
                self.check_word("1:" + long + ":0:0")
                self.check_word("1:" + long + ":-:-")

    def test_long_of_more_than_twelve_figures(self):
        for long in ("1" + "0" * 12, "9" * 13, "1" * 20, "1" * 40, "1" * 1900, "9" * 4300, "9" * 5000, "1" * 19000):
            self.check_word("1:" + long + ":0:0")

    def test_up_and_down_where_long_is_0(self):
        for up, down in itertools.product(["-", "0", "1", "2", "3", "", "None", "--"], repeat=2):
            if (up, down) != ("-", "-"):
                self.check_word(f"1:0:{up}:{down}")

    def test_up_and_down_where_long_is_not_0(self):
        for wrong in ["-", "", "a", "3", "4", "10", "24", "--"] + NO_NUMBERS:
            self.check_word(f"1:5:{wrong}:0")
            self.check_word(f"1:5:0:{wrong}")
            self.check_word(f"1:5:{wrong}:{wrong}")
        self.check(["label 0:0:-:- 1:5:24:0"] + MANY[1:], 0, 2)
        self.check(["label 0:0:-:- 1:5:0:24"] + MANY[1:], 0, 2)

    def test_long_0_once_in_a_line(self):
        self.check(["label 0:0:-:- 1:0:-:-"] + LINES[1:], 0, 2)
        self.check(["label 0:0:-:- 1:5:0:0 2:0:-:-"] + LINES[1:], 0, 3)
        self.check(["label 0:5:0:0 1:0:-:- 2:0:-:-"] + LINES[1:], 0, 3)
        self.check(LINES[:2] + ["label 1:0:-:- 2:0:-:-"], 2, 2)

    def test_word_too_many(self):
        for k, line in enumerate(LINES):
            words = line.split(" ")
            for more in ("", "3:5:0:0", "3:0:-:-", "x", "label", "2:5:0:0", "2:0:-:-"):
                self.check(LINES[:k] + [line + " " + more] + LINES[k + 1:], k, len(words))
        self.check(["label 0:0:-:- 1:5:0:0"], 0, 2)

    def test_twenty_fifth_line(self):
        for more in ("label 23:0:-:-", "label 0:0:-:-", "label", "", "x", "label 24:0:-:-", "web 3"):
            self.check(MANY + [more], 24, 0)
            self.check(MANY + [more] * 76, 24, 0)
        # What can't stand ahead of it is told first.
        self.check(MANY[1:] + ["x", "label 0:0:-:-"], 23, 0)
        self.check(MANY[1:] + ["label 0:0:-:- 0:0:-:-", "x"], 23, 2)
        self.check(["label 0:5:0:0"] + MANY, 0, 2)

    def test_how_many_lines_there_are_counts_all_of_them(self):
        # Below how many lines there are, though more than there may be: the line more is told.
        self.check(["label 24:0:-:-"] + MANY, 24, 0)
        self.check(["label 25:0:-:-"] + MANY, 0, 1)
        self.check(["label 0:0:-:- 1:5:29:0"] + MANY + ["x"] * 5, 24, 0)

    def test_several_faults(self):
        self.check(["label 3:0:0:- 0:0:-:-", "x", "y"], 0, 1)
        self.check(["label 0:0:-:- x y", "x", "y"], 0, 2)
        self.check(["label 0:5:0:0 1:5:0:0", "x", "y"], 0, 3)
        self.check(["label 0:0:-:-", "label", "y"], 1, 1)
        self.check(["label 0:0:-:-", "label 1:5:0:0 1:5:0:0", "y"], 1, 2)
        self.check(["label 0:0:-:-", "label 2:0:-:-"], 1, 1)


class EachWord(Reading):
    def check(self, lines):
        """As told by hand; whether the lines write labels comes back."""
        fault = labels_text_fault(lines)
        if fault is None:
            self.assertEqual(with_kinds(read_labels(lines)), with_kinds(read_by_hand(lines)), lines)
            self.assertIs(are_labels(len(lines), read_by_hand(lines)), True)
        else:
            self.assertNoText(fault[0], fault[1], read_labels, lines)
        return fault is None

    def test_turned_in_one_word_or_line(self):
        found = [self.check(lines) for lines in turned_lines(LINES, OTHERS)]
        self.assertGreater(found.count(True), 20)
        self.assertGreater(found.count(False), 200)

    def test_turned_twice(self):
        for lines in list(turned_lines(LINES, OTHERS))[::3]:
            for twice in turned_lines(lines, ["", "1:0:-:-", "2:5:0:0", "label"]):
                self.check(twice)

    def test_turned_in_one_sign(self):
        text = LINES[1]
        for k in range(len(text)):
            for sign in ["", " ", ":", "-", "0", "1", "2", "3", "12", "l", "x"]:
                for turned in (text[:k] + sign + text[k + 1:], text[:k] + sign + text[k:]):
                    self.check([LINES[0], turned, LINES[2]])

    def test_great_labels_turned(self):
        for web, order in zip(great_webs(), great_orders()):
            lines = label_lines(labels_by_hand(web, order))
            for turned in itertools.islice(turned_lines(lines, ["", "11:5:0:23", "12:0:-:-", "3:5:24:0"]), 0, None, 7):
                self.check(turned)

    def test_each_four_parts(self):
        parts = ["-", "0", "1", "2", "00", ""]
        for row in itertools.product(parts, repeat=4):
            word = ":".join(row)
            self.check(["label " + word, "label 0:0:-:-"])
            self.check(["label 0:0:-:- " + word, "label 0:0:-:-"])
            self.check(["label 0:1:1:1 " + word, "label 0:0:-:-"])


class AskersOwn(unittest.TestCase):
    def test_list_of_its_own(self):
        first = label_lines(LABELS)
        second = label_lines(LABELS)
        first.append("x")
        first[0] = "label"
        self.assertEqual(second, LINES)
        self.assertEqual(label_lines(LABELS), LINES)

    def test_handed_in_stays(self):
        lines = list(LINES)
        labels = read_labels(lines)
        self.assertEqual(lines, LINES)
        lines.append("x")
        lines[0] = "y"
        self.assertEqual(with_kinds(labels), with_kinds(LABELS))
        for wrong in (["label"], ["label 0:1:0:0"], LINES + ["x"]):
            ahead = copy.deepcopy(wrong)
            with self.assertRaises(ValueError):
                read_labels(wrong)
            self.assertEqual(wrong, ahead)
        self.assertEqual(read_labels(list(LINES)), LABELS)


if __name__ == "__main__":
    unittest.main()
