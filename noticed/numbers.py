"""Numbers: the least ones behind an order, or a round that bars a threshold."""

from noticed.bars import need_unbarred
from noticed.checks import is_thing, need_order, need_step


def demand(pairs, step, one, other):
    if (one, other) in pairs:
        return step
    if (other, one) in pairs:
        return None
    return 1 - step


def all_demands(order, step):
    demands = []
    for one in range(order[0]):
        for other in range(order[0]):
            by = demand(order[1], step, one, other)
            if one != other and by is not None:
                demands.append((one, other, by))
    return demands


# Tells a thing whose number was raised, or None where every demand was met.
# The origin of a thing is the one that raised it last.
def raise_once(demands, values, origins):
    raised = None
    for one, other, by in demands:
        if values[one] + by > values[other]:
            values[other] = values[one] + by
            origins[other] = one
            raised = other
    return raised


# Of n things no chain of demands without a round is longer than n - 1, so what
# is raised in the nth turn is raised by a round, and would be for ever.
def raise_all(demands, values, origins):
    raised = None
    for turn in range(len(values)):
        raised = raise_once(demands, values, origins)
        if raised is None:
            return None
    return raised


def least_values(many, demands):
    values = [0] * many
    if raise_all(demands, values, [None] * many) is None:
        return tuple(values)
    return None


# A thing may hang on a round without being in it: after as many steps back as
# there are things, one stands in the round itself.
def round_behind(origins, raised):
    start = raised
    for turn in range(len(origins)):
        start = origins[start]
    things = [start]
    thing = origins[start]
    while thing != start:
        things.append(thing)
        thing = origins[thing]
    return list(reversed(things))


def things_in_round(many, demands):
    origins = [None] * many
    raised = raise_all(demands, [0] * many, origins)
    if raised is None:
        return None
    return round_behind(origins, raised)


def numbers(order, step):
    need_order(order)
    need_step(step)
    return least_values(order[0], all_demands(order, step))


def round_of(order, step):
    need_order(order)
    need_step(step)
    return things_in_round(order[0], all_demands(order, step))


def are_unlike_things(value, many):
    if not isinstance(value, list):
        return False
    if not all([is_thing(thing, many) for thing in value]):
        return False
    return len(set(value)) == len(value)


def come_above_nothing(demands):
    return None not in demands and sum(demands) > 0


def is_round(order, step, thing):
    need_order(order)
    need_step(step)
    if not are_unlike_things(thing, order[0]) or len(thing) < 2:
        return False
    # at place 0 this is the way from the last thing to the first one
    demands = [demand(order[1], step, thing[place - 1], thing[place]) for place in range(len(thing))]
    return come_above_nothing(demands)


def least(order):
    need_unbarred(order)
    # this ends, since some threshold is there for what nothing bars
    step = 1
    found = numbers(order, step)
    while found is None:
        step = step + 1
        found = numbers(order, step)
    return (step, found)


def least_step(order):
    return least(order)[0]
