"""Several thresholds: numbers that tell several orders, or a round that bars them."""

from noticed.checks import is_whole, need_numbers, need_several
from noticed.numbers import all_demands, are_unlike_things, come_above_nothing, demand, least_values, things_in_round
from noticed.orders import told_pairs


def count_of_things(several):
    return several[0][0][0]


def demands_of_all(several):
    demands = []
    for order, step in several:
        demands.extend(all_demands(order, step))
    return demands


def numbers_for(several):
    need_several(several)
    return least_values(count_of_things(several), demands_of_all(several))


def tells_all(several, numbers):
    need_several(several)
    many = count_of_things(several)
    need_numbers(numbers, many, many)
    return all([told_pairs(step, numbers) == order[1] for order, step in several])


def demand_at(several, place, one, other):
    return demand(several[place][0][1], several[place][1], one, other)


# The place that demands the most, so that the round comes to no less than the demands it was found by.
def greatest_place(several, one, other):
    places = [place for place in range(len(several)) if demand_at(several, place, one, other) is not None]
    return max(places, key=lambda place: demand_at(several, place, one, other))


def bar_for(several):
    need_several(several)
    things = things_in_round(count_of_things(several), demands_of_all(several))
    if things is None:
        return None
    following = things[1:] + things[:1]
    return [(one, greatest_place(several, one, other)) for one, other in zip(things, following)]


def is_part(value, places):
    return isinstance(value, tuple) and len(value) == 2 and is_whole(value[1], 0, places - 1)


def has_form(value, several):
    if not isinstance(value, list) or len(value) < 2:
        return False
    if not all([is_part(part, len(several)) for part in value]):
        return False
    return are_unlike_things([part[0] for part in value], count_of_things(several))


def is_bar_for(several, thing):
    need_several(several)
    if not has_form(thing, several):
        return False
    following = thing[1:] + thing[:1]
    # the place that stands with a thing says which order demands the way from it to the next one
    demands = [demand_at(several, part[1], part[0], after[0]) for part, after in zip(thing, following)]
    return come_above_nothing(demands)
