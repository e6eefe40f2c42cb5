"""Orders with the fewest entries, and the numbers that show it of one."""

from labelways.errors import NoLeast, TooMany
from labelways.kinds import is_number, is_tuple_of
from labelways.lengths import between_rows, lengths
from labelways.orders import by_order, is_order, total

MOST_PLACES_OF_LEASTS = 8


def brings(web, places, hub):
    return count_free(sets_from(lengths(web), hub), set_number(places))


def count_free(sets, taken):
    # A place is itself between the hub and it, so one that is taken counts for nothing, too.
    return len([members for members in sets if members != 0 and members & taken == 0])


def sets_from(rows, hub):
    return [set_number(between_rows(rows[hub], rows[place], place)) for place in range(len(rows))]


def set_number(places):
    return sum([1 << place for place in places])


def lets_least(web, thing):
    refuse_too_many(web)
    if not is_order_with_numbers(web, thing):
        raise NoLeast("shape", None)
    if thing[1][-1] != 0:
        raise NoLeast("end", None)
    at = step_fault(web, thing[1])
    if at is not None:
        raise NoLeast("step", at)
    if thing[1][0] != total(by_order(web, thing[0])):
        raise NoLeast("start", None)
    return True


def refuse_too_many(web):
    if web[0] > MOST_PLACES_OF_LEASTS:
        raise TooMany("the web has more than eight places")


def is_order_with_numbers(web, thing):
    if not is_tuple_of(thing, 2) or not is_order(web, thing[0]):
        return False
    return is_tuple_of(thing[1], 1 << web[0]) and all([is_number(number) for number in thing[1]])


def step_fault(web, numbers):
    sets = all_sets(web)
    for taken, number in enumerate(numbers):
        for hub in left_places(web, taken):
            if number > by_way_of(sets, numbers, taken, hub):
                return (taken, hub)
    return None


def all_sets(web):
    rows = lengths(web)
    return [sets_from(rows, hub) for hub in range(web[0])]


def left_places(web, taken):
    return [place for place in range(web[0]) if taken & (1 << place) == 0]


def by_way_of(sets, numbers, taken, hub):
    return count_free(sets[hub], taken) + numbers[taken | (1 << hub)]


def least_order(web):
    refuse_too_many(web)
    sets = all_sets(web)
    numbers = least_numbers(web, sets)
    order = []
    while len(order) < web[0]:
        taken = set_number(order)
        order.append(best_next(web, sets, numbers, taken))
    return (tuple(order), tuple(numbers))


def least_numbers(web, sets):
    count = 1 << web[0]
    numbers = [0] * count
    # A set with one place more has a greater number, so going down each is known by when it is asked for.
    for taken in range(count - 2, -1, -1):
        numbers[taken] = by_way_of(sets, numbers, taken, best_next(web, sets, numbers, taken))
    return numbers


def best_next(web, sets, numbers, taken):
    return min(left_places(web, taken), key=lambda hub: by_way_of(sets, numbers, taken, hub))
