"""Mended: how far orders are from one another, and the nearest one that nothing bars."""

from noticed.bars import bar
from noticed.checks import TELLING_WORDS, need_order
from noticed.errors import Full, NoCount
from noticed.keepers import with_newest

MOST_MENDED = 4


def tells_of(pairs, first, second):
    return ((first, second) in pairs, (second, first) in pairs)


def unlike(one, other):
    need_order(one)
    need_order(other)
    if one[0] != other[0]:
        raise NoCount("both orders must have as many things")
    far = 0
    for second in range(one[0]):
        for first in range(second):
            if tells_of(one[1], first, second) != tells_of(other[1], first, second):
                far = far + 1
    return far


def all_tellings(many):
    tellings = [()]
    for turn in range(many):
        longer = []
        for telling in tellings:
            longer.extend([telling + (word,) for word in TELLING_WORDS])
        tellings = longer
    return tellings


# Without its last thing an order that nothing bars is still one, so each is grown
# from those of one thing less.
def unbarred_orders(many):
    orders = [(1, ())]
    for newest in range(1, many):
        grown = []
        for telling in all_tellings(newest):
            grown.extend([with_newest(order, telling) for order in orders])
        orders = [order for order in grown if bar(order) is None]
    return orders


def nearest(order):
    need_order(order)
    if order[0] > MOST_MENDED:
        raise Full("the nearest order is looked for among those of at most 4 things")
    return min(unbarred_orders(order[0]), key=lambda near: (unlike(order, near), near))


def how_far(order):
    return unlike(order, nearest(order))
