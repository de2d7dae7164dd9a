"""Orders: what numbers tell, and what an order tells of its things."""

from noticed.checks import MOST_THINGS, need_numbers, need_order, need_step, need_thing


def told_pairs(step, numbers):
    pairs = []
    for one in range(len(numbers)):
        for other in range(len(numbers)):
            if numbers[other] - numbers[one] >= step:
                pairs.append((one, other))
    return tuple(pairs)


def told(step, numbers):
    need_step(step)
    need_numbers(numbers, 1, MOST_THINGS)
    return (len(numbers), told_pairs(step, numbers))


def fits(order, step, numbers):
    need_order(order)
    need_step(step)
    need_numbers(numbers, order[0], order[0])
    return told_pairs(step, numbers) == order[1]


def are_beside(pairs, one, other):
    return (one, other) not in pairs and (other, one) not in pairs


def beside(order, thing):
    need_order(order)
    need_thing(thing, order[0])
    return [other for other in range(order[0]) if are_beside(order[1], thing, other)]


def parts(pairs, thing, one, other):
    if ((thing, one) in pairs) != ((thing, other) in pairs):
        return True
    return ((one, thing) in pairs) != ((other, thing) in pairs)


def parted(order, one, other):
    need_order(order)
    need_thing(one, order[0])
    need_thing(other, order[0])
    for thing in range(order[0]):
        if parts(order[1], thing, one, other):
            return thing
    return None
