"""Of which kind a plain thing is."""


def is_number(thing):
    # To Python a truth is an int as well, but it is no whole number here.
    return isinstance(thing, int) and not isinstance(thing, bool)


def is_within(thing, least, most):
    return is_number(thing) and least <= thing and thing <= most


def is_tuple_of(thing, count):
    return isinstance(thing, tuple) and len(thing) == count


def is_rising(things):
    return all([things[k - 1] < things[k] for k in range(1, len(things))])
