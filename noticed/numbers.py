"""Numbers: the least ones behind an order, or a round that bars a threshold."""

from noticed.bars import need_unbarred
from noticed.checks import is_thing, need_order, need_step


def demand(pairs, step, one, other):
    if (one, other) in pairs:
        return step
    if (other, one) in pairs:
        return None
    return 1 - step


def all_demands(order, step):
    demands = []
    for one in range(order[0]):
        for other in range(order[0]):
            by = demand(order[1], step, one, other)
            if one != other and by is not None:
                demands.append((one, other, by))
    return demands


# Tells a thing whose number was raised, or None where every demand was met.
# The origin of a thing is the one that raised it last.
def raise_once(demands, values, origins):
    raised = None
    for one, other, by in demands:
        if values[one] + by > values[other]:
            values[other] = values[one] + by
            origins[other] = one
            raised = other
    return raised


# Of n things no chain of demands without a round is longer than n - 1, so what
# is raised in the nth turn is raised by a round, and would be for ever.
def raise_all(demands, values, origins):
    raised = None
    for turn in range(len(values)):
        raised = raise_once(demands, values, origins)
        if raised is None:
            return None
    return raised


def least_values(many, demands):
    values = [0] * many
    if raise_all(demands, values, [None] * many) is None:
        return tuple(values)
    return None


# A thing may hang on a round without being in it: after as many steps back as
# there are things, one stands in the round itself.
def round_behind(origins, raised):
    start = raised
    for turn in range(len(origins)):
        start = origins[start]
    things = [start]
    thing = origins[start]
    while thing != start:
        things.append(thing)
        thing = origins[thing]
    return list(reversed(things))


def numbers(order, step):
    need_order(order)
    need_step(step)
    return least_values(order[0], all_demands(order, step))


def round_of(order, step):
    need_order(order)
    need_step(step)
    origins = [None] * order[0]
    raised = raise_all(all_demands(order, step), [0] * order[0], origins)
    if raised is None:
        return None
    return round_behind(origins, raised)


def are_unlike_things(value, many):
    if not isinstance(value, list):
        return False
    if not all([is_thing(thing, many) for thing in value]):
        return False
    return len(set(value)) == len(value)


def comes_above_nothing(pairs, step, things):
    total = 0
    for place in range(len(things)):
        # at place 0 this is the way from the last thing to the first one
        by = demand(pairs, step, things[place - 1], things[place])
        if by is None:
            return False
        total = total + by
    return total > 0


def is_round(order, step, thing):
    need_order(order)
    need_step(step)
    if not are_unlike_things(thing, order[0]) or len(thing) < 2:
        return False
    return comes_above_nothing(order[1], step, thing)


def least(order):
    need_unbarred(order)
    # this ends, since some threshold is there for what nothing bars
    step = 1
    found = numbers(order, step)
    while found is None:
        step = step + 1
        found = numbers(order, step)
    return (step, found)


def least_step(order):
    return least(order)[0]
