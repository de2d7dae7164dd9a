"""Groups of things beside one another, and lines of things each less than the next one.

Both are called parts here: tuples in which each thing may stand behind all that
stand ahead of it. This holds of lines too, not just of neighbours in them: where
nothing bars an order, a thing is less than whatever is more than one above it.
"""

from noticed.bars import need_unbarred
from noticed.orders import are_beside


def may_stand_behind(allowed, part, thing):
    return all([(before, thing) in allowed for before in part])


def longer_parts(many, allowed, parts):
    found = []
    for part in parts:
        for thing in range(many):
            if may_stand_behind(allowed, part, thing):
                found.append(part + (thing,))
    return found


def all_parts(many, allowed):
    found = []
    parts = [(thing,) for thing in range(many)]
    while len(parts) > 0:
        found.extend(parts)
        parts = longer_parts(many, allowed, parts)
    return sorted(found)


def pairs_beside(order):
    found = []
    for one in range(order[0]):
        for other in range(one + 1, order[0]):
            if are_beside(order[1], one, other):
                found.append((one, other))
    return found


def all_groups(order):
    return all_parts(order[0], pairs_beside(order))


def all_lines(order):
    return all_parts(order[0], order[1])


# All parts are rising, and of several with the most things max tells the first one.
def widest(order):
    need_unbarred(order)
    return max(all_groups(order), key=len)


def longest_line(order):
    need_unbarred(order)
    return max(all_lines(order), key=len)


def is_within(part, things):
    return all([thing in things for thing in part])


def things_without(things, part):
    return [thing for thing in things if thing not in part]


def most_within(parts, things):
    return max([len(part) for part in parts if is_within(part, things)], default=0)


# Things take as few groups as their longest line has things, and as few lines as
# their widest group has. So a part is one of as few as can be just if the most that
# lies across it is less without its things.
def can_be_next(part, across, things):
    return most_within(across, things_without(things, part)) < most_within(across, things)


# The least part is taken each time, so those behind it are greater: were one less,
# it would have been taken.
def as_few_as_can_be(many, parts, across):
    things = list(range(many))
    chosen = []
    while len(things) > 0:
        within = [part for part in parts if is_within(part, things)]
        least_part = min([part for part in within if can_be_next(part, across, things)])
        chosen.append(least_part)
        things = things_without(things, least_part)
    return chosen


def few_groups(order):
    need_unbarred(order)
    return as_few_as_can_be(order[0], all_groups(order), all_lines(order))


def few_lines(order):
    need_unbarred(order)
    return as_few_as_can_be(order[0], all_lines(order), all_groups(order))
