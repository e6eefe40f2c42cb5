"""Plans of trees, by their middle places."""

from labelways.errors import NoTree
from labelways.webs import is_whole, joined_within


def tree_plan(web):
    if not is_tree(web):
        raise NoTree("the web is no tree")
    return plan_of_part(web, list(range(web[0])))


def is_tree(web):
    return is_whole(web) and len(web[1]) == web[0] - 1


def plan_of_part(web, places):
    middle = middle_place(web, places)
    parts = parts_without(web, places, middle)
    return ((middle,), tuple([plan_of_part(web, part) for part in parts]))


def middle_place(web, places):
    # The places rise, so of several that part it as well the least is taken.
    return min(places, key=lambda place: greatest_part(web, places, place))


def greatest_part(web, places, gone):
    return max([len(part) for part in parts_without(web, places, gone)], default=0)


def parts_without(web, places, gone):
    left = [place for place in places if place != gone]
    parts = []
    while left:
        part = joined_within(web, left, left[0])
        parts.append(part)
        left = [place for place in left if place not in part]
    return parts
