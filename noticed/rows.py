"""Rows: like things in one list, the lists in a row; the longest; all orders of few things."""

from noticed.bars import bar, need_unbarred
from noticed.checks import is_whole
from noticed.errors import NoCount

MOST_LISTED = 3


# Where nothing bars an order and two things are not alike, all that is less than the
# one ahead is less than the other one too, and all that is more than the other one is
# more than the one ahead. So this rises along the row, and is the same for like things
# alone.
def height(pairs, thing):
    less = [one for one, other in pairs if other == thing]
    more = [other for one, other in pairs if one == thing]
    return len(less) - len(more)


def things_at(heights, level):
    return [thing for thing in range(len(heights)) if heights[thing] == level]


def row(order):
    need_unbarred(order)
    heights = [height(order[1], thing) for thing in range(order[0])]
    return [things_at(heights, level) for level in sorted(set(heights))]


def longest(order):
    lengths = {}
    # whatever is less than a thing stands in a list ahead, so its length is known
    for things in row(order):
        for thing in things:
            ahead = [lengths[one] for one, other in order[1] if other == thing]
            lengths[thing] = 1 + max(ahead, default=0)
    return max(lengths.values())


def unlike_pairs(many):
    pairs = []
    for one in range(many):
        for other in range(many):
            if one != other:
                pairs.append((one, other))
    return pairs


def choices(pairs):
    chosen = [()]
    for pair in pairs:
        chosen = chosen + [some + (pair,) for some in chosen]
    return chosen


def all_orders(many):
    if not is_whole(many, 1, MOST_LISTED):
        raise NoCount("orders are listed of 1 to 3 things")
    orders = [(many, pairs) for pairs in choices(unlike_pairs(many))]
    return sorted([order for order in orders if bar(order) is None])
