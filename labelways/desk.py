"""A desk: rows of words are told to it, and it answers texts of the web that it keeps."""

from labelways.checker import lets_labels
from labelways.errors import NoLabels, NoRow, NoTie
from labelways.keeper import Keeper
from labelways.kinds import is_place, number_in
from labelways.labels import walk
from labelways.labeltexts import label_line, number_word, read_labels
from labelways.orders import total
from labelways.webs import is_long
from labelways.webtexts import read_web, web_lines

CHECK = "check "
MOST_IN_A_ROW = 9999
# How many numbers stand behind the first word; behind "order" there may be any count but none.
COUNTS = {"put": 3, "strike": 2, "told": 2, "step": 2, "walk": 2, "label": 1, "total": 0, "web": 0}


class Desk:
    def __init__(self, lines):
        web = read_web(lines)
        self.keeper = Keeper(web, tuple(range(web[0])))

    def say(self, row):
        if row.startswith(CHECK):
            return checked(self.keeper.web_now(), row[len(CHECK):])
        words = row.split(" ")
        numbers = numbers_behind(words)
        if words[0] == "order":
            self.keeper = Keeper(self.keeper.web_now(), tuple(numbers))
            return "ok"
        return answer(self.keeper, words[0], numbers)


def checked(web, text):
    labels = read_labels(text.split("; "))
    try:
        lets_labels(web, labels)
    except NoLabels as fault:
        return fault.word
    return "ok"


def numbers_behind(words):
    numbers = [number_in(word, 0, MOST_IN_A_ROW) for word in words[1:]]
    if None in numbers or not is_row(words[0], numbers):
        raise NoRow("this is no row of a desk")
    return numbers


def is_row(word, numbers):
    if word == "order":
        return len(numbers) > 0
    if len(numbers) != COUNTS.get(word):
        return False
    return word != "put" or is_long(numbers[2])


def answer(keeper, word, numbers):
    # A third number is a long, not a place.
    if not all([is_place(keeper.web_now()[0], number) for number in numbers[:2]]):
        raise NoTie("a number here is that of no place")
    if word == "put":
        return places_line(keeper.put(numbers[0], numbers[1], numbers[2]))
    if word == "strike":
        return places_line(keeper.strike(numbers[0], numbers[1]))
    if word == "told":
        return number_word(keeper.length_of(numbers[0], numbers[1]))
    if word == "step":
        return number_word(keeper.step_of(numbers[0], numbers[1]))
    if word == "walk":
        return places_line(walk(keeper.labels_now(), numbers[0], numbers[1]))
    if word == "label":
        return label_line(keeper.labels_now()[numbers[0]])
    if word == "total":
        return str(total(keeper.labels_now()))
    return "; ".join(web_lines(keeper.web_now()))


def places_line(places):
    return " ".join([str(place) for place in places]) if places else "-"
