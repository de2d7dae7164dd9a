"""Changed: orders turned, renamed, without a thing, joined, laid."""

from noticed.checks import MOST_THINGS, need_names, need_order, need_thing
from noticed.errors import Full, NoCount


def turned(order):
    need_order(order)
    pairs = [(other, one) for one, other in order[1]]
    return (order[0], tuple(sorted(pairs)))


def renamed(order, names):
    need_order(order)
    need_names(names, order[0])
    pairs = [(names[one], names[other]) for one, other in order[1]]
    return (order[0], tuple(sorted(pairs)))


def number_without(thing, left_out):
    return thing - 1 if thing > left_out else thing


def without(order, thing):
    need_order(order)
    need_thing(thing, order[0])
    if order[0] == 1:
        raise NoCount("the only thing can't be left out")
    kept = [pair for pair in order[1] if thing not in pair]
    pairs = [(number_without(one, thing), number_without(other, thing)) for one, other in kept]
    return (order[0] - 1, tuple(pairs))


def need_room(one, other):
    need_order(one)
    need_order(other)
    if one[0] + other[0] > MOST_THINGS:
        raise Full("together there would be more than 8 things")


def pairs_of_both(one, other):
    return list(one[1]) + [(less + one[0], more + one[0]) for less, more in other[1]]


def pairs_across(one, other):
    pairs = []
    for less in range(one[0]):
        for more in range(one[0], one[0] + other[0]):
            pairs.append((less, more))
    return pairs


def joined(one, other):
    need_room(one, other)
    pairs = pairs_of_both(one, other) + pairs_across(one, other)
    return (one[0] + other[0], tuple(sorted(pairs)))


def laid(one, other):
    need_room(one, other)
    return (one[0] + other[0], tuple(pairs_of_both(one, other)))
