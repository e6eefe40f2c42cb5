"""Plans that part a web: whether a thing is one, what it tells of its places, and whether it is right for a web."""

from labelways.errors import NoPlan
from labelways.kinds import is_number, is_place, is_rising, is_tuple_of

MOST_WITHIN = 24


def is_plan(thing):
    return is_plan_within(thing, MOST_WITHIN)


def is_plan_within(thing, most):
    if most == 0 or not is_tuple_of(thing, 2) or not isinstance(thing[1], tuple):
        return False
    return are_plan_places(thing[0]) and all([is_plan_within(plan, most - 1) for plan in thing[1]])


def are_plan_places(thing):
    if not isinstance(thing, tuple) or len(thing) == 0:
        return False
    # Only numbers can be asked whether they rise.
    return all([is_number(place) and place >= 0 for place in thing]) and is_rising(thing)


def chain(plan, place):
    return tuple(sorted(set(chain_or_none(plan, place))))


def chain_or_none(plan, place):
    if place in plan[0]:
        return plan[0]
    for part in plan[1]:
        rest = chain_or_none(part, place)
        if rest is not None:
            return plan[0] + rest
    return None


def plan_order(plan):
    found = list(plan[0])
    for part in plan[1]:
        found.extend(plan_order(part))
    return tuple(found)


def deepest(plan):
    return len(plan[0]) + max([deepest(part) for part in plan[1]], default=0)


def lets_plan(web, thing):
    if not is_plan(thing):
        raise NoPlan("shape", None)
    # Each word leans on those ahead of it: chains are asked for where each place stands just once.
    refuse_at("place", place_fault(web, thing))
    refuse_at("lacks", lacks_fault(web, thing))
    refuse_at("tie", tie_fault(web, thing))
    return True


def refuse_at(word, at):
    if at is not None:
        raise NoPlan(word, at)


def place_fault(web, plan):
    ahead = {}
    for place in plan_order(plan):
        if place in ahead or not is_place(web[0], place):
            return place
        ahead[place] = True
    return None


def lacks_fault(web, plan):
    order = plan_order(plan)
    return min([place for place in range(web[0]) if place not in order], default=None)


def tie_fault(web, plan):
    chains = [chain(plan, place) for place in range(web[0])]
    for a, b, long in web[1]:
        if a not in chains[b] and b not in chains[a]:
            return (a, b)
    return None
