"""Bars: four things for which no numbers can tell an order."""

from noticed.checks import is_thing, need_order
from noticed.errors import Barred


def bars_as_two(pairs, a, b, c, d):
    if (a, b) not in pairs or (c, d) not in pairs:
        return False
    return (a, d) not in pairs and (c, b) not in pairs


def bars_as_three(pairs, a, b, c, d):
    if (a, b) not in pairs or (b, c) not in pairs:
        return False
    return (a, d) not in pairs and (d, c) not in pairs


# In both searches the pairs are rising, so what is found first is the least.
def first_two(pairs):
    for a, b in pairs:
        for c, d in pairs:
            if bars_as_two(pairs, a, b, c, d):
                return ("two", a, b, c, d)
    return None


def first_three(many, pairs):
    for a, b in pairs:
        for c in range(many):
            for d in range(many):
                if bars_as_three(pairs, a, b, c, d):
                    return ("three", a, b, c, d)
    return None


def bar(order):
    need_order(order)
    found = first_two(order[1])
    if found is None:
        found = first_three(order[0], order[1])
    return found


def need_unbarred(order):
    if bar(order) is not None:
        raise Barred("four things bar this order, so no numbers tell it")


def has_form(thing, many):
    if not isinstance(thing, tuple) or len(thing) != 5:
        return False
    if not isinstance(thing[0], str):
        return False
    return all([is_thing(part, many) for part in thing[1:]])


def is_bar(order, thing):
    need_order(order)
    if not has_form(thing, order[0]):
        return False
    if thing[0] == "two":
        return bars_as_two(order[1], thing[1], thing[2], thing[3], thing[4])
    if thing[0] == "three":
        return bars_as_three(order[1], thing[1], thing[2], thing[3], thing[4])
    return False
