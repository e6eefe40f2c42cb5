"""Of which kind a plain thing is, and which number a word writes."""

FIGURES = "0123456789"


def is_number(thing):
    # To Python a truth is an int as well, but it is no whole number here.
    return isinstance(thing, int) and not isinstance(thing, bool)


def is_within(thing, least, most):
    return is_number(thing) and least <= thing and thing <= most


def is_tuple_of(thing, count):
    return isinstance(thing, tuple) and len(thing) == count


def is_rising(things):
    return all([things[k - 1] < things[k] for k in range(1, len(things))])


def is_place(n, thing):
    return is_within(thing, 0, n - 1)


def are_places(n, thing):
    # Places rise below n, so what is longer need not be walked.
    if not isinstance(thing, tuple) or len(thing) == 0 or len(thing) > n:
        return False
    # Only numbers can be asked whether they rise.
    return all([is_place(n, place) for place in thing]) and is_rising(thing)


def number_in(word, least, most):
    # Python reads no number of very many figures, so what has more than the most is left unread.
    if len(word) > len(str(most)) or not is_written(word):
        return None
    number = int(word)
    return number if is_within(number, least, most) else None


def is_written(word):
    # Python also reads figures of other scripts, signs and noughts ahead.
    if word == "" or (word[0] == "0" and word != "0"):
        return False
    return all([sign in FIGURES for sign in word])
