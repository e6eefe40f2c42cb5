"""Of which kind a plain thing is."""


def is_number(thing):
    # To Python a truth is an int as well, but it is no whole number here.
    return isinstance(thing, int) and not isinstance(thing, bool)


def is_within(thing, least, most):
    return is_number(thing) and least <= thing and thing <= most


def is_tuple_of(thing, count):
    return isinstance(thing, tuple) and len(thing) == count


def is_rising(things):
    return all([things[k - 1] < things[k] for k in range(1, len(things))])


def is_place(n, thing):
    return is_within(thing, 0, n - 1)


def are_places(n, thing):
    # Places rise below n, so what is longer need not be walked.
    if not isinstance(thing, tuple) or len(thing) == 0 or len(thing) > n:
        return False
    # Only numbers can be asked whether they rise.
    return all([is_place(n, place) for place in thing]) and is_rising(thing)
