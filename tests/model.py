"""The document's words once more, by trying everything, to hold the program against."""

import fractions
import functools
import itertools
import re

BARRED = [(2, ((0, 1), (1, 0))), (3, ((0, 1), (1, 2))), (3, ((0, 1), (1, 2), (2, 0))), (4, ((0, 1), (2, 3))),
          (4, ((0, 1), (0, 2), (1, 2))), (8, ((4, 5), (6, 7)))]


def all_relations(many):
    """Every order of so many things, also those that something bars."""
    pairs = list(itertools.permutations(range(many), 2))
    for chosen in itertools.product((False, True), repeat=len(pairs)):
        yield (many, tuple(pair for pair, there in zip(pairs, chosen) if there))


def random_relation(chance, many):
    pairs = itertools.permutations(range(many), 2)
    part = chance.random()
    return (many, tuple(pair for pair in pairs if chance.random() < part))


def order_of(values, step):
    pairs = []
    for one, other in itertools.permutations(range(len(values)), 2):
        if values[other] >= values[one] + step:
            pairs.append((one, other))
    return (len(values), tuple(sorted(pairs)))


def chain(many):
    return (many, tuple(itertools.combinations(range(many), 2)))


def holds_bar(order, word, a, b, c, d):
    less = set(order[1])
    if word == "two":
        return {(a, b), (c, d)} <= less and not {(a, d), (c, b)} & less
    return {(a, b), (b, c)} <= less and not {(a, d), (d, c)} & less


def bars(order):
    found = []
    for word in ("two", "three"):
        for four in itertools.product(range(order[0]), repeat=4):
            if holds_bar(order, word, *four):
                found.append((word,) + four)
    return found


def holds_round(order, step, things):
    less = set(order[1])
    total = 0
    for one, following in zip(things, things[1:] + things[:1]):
        if (one, following) in less:
            total += step
        elif (following, one) not in less:
            total += 1 - step
        else:
            return False
    return total > 0


def rounds(order, step):
    found = []
    for length in range(2, order[0] + 1):
        for things in itertools.permutations(range(order[0]), length):
            if holds_round(order, step, list(things)):
                found.append(list(things))
    return found


def least_by_trying(many, step):
    """The least numbers of each order that numbers tell by the threshold."""
    least = {}
    for values in itertools.product(range((many - 1) * step + 1), repeat=many):
        order = order_of(values, step)
        before = least.get(order, values)
        least[order] = tuple(min(two) for two in zip(before, values))
    return least


def least_by_ways(order, step):
    return least_for_all([(order, step)])


@functools.cache
def unbarred(many):
    """Every order of so many things that nothing bars."""
    return tuple(order for order in all_relations(many) if not bars(order))


def random_unbarred(chance, many):
    return order_of(tuple(chance.randint(0, chance.choice((3, 9, 20))) for thing in range(many)), chance.randint(1, 9))


def less_than(order, thing):
    return {one for one, other in order[1] if other == thing}


def more_than(order, thing):
    return {other for one, other in order[1] if one == thing}


def are_alike(order, one, other):
    return less_than(order, one) == less_than(order, other) and more_than(order, one) == more_than(order, other)


def is_ahead(order, one, other):
    if more_than(order, one) - more_than(order, other):
        return True
    return bool(less_than(order, other) - less_than(order, one))


def is_group(order, part):
    return all(one < other and not {(one, other), (other, one)} & set(order[1])
               for one, other in itertools.combinations(part, 2))


def is_line(order, part):
    return all(pair in order[1] for pair in zip(part, part[1:]))


def tuples(many):
    for length in range(1, many + 1):
        yield from itertools.permutations(range(many), length)


def least_of_the_most(order, is_part):
    parts = [part for part in tuples(order[0]) if is_part(order, part)]
    most = max(len(part) for part in parts)
    return min(part for part in parts if len(part) == most)


def shares(things):
    """Every way to share things out among lists, each thing in just one."""
    if not things:
        yield []
        return
    for rest in shares(things[1:]):
        yield [[things[0]]] + rest
        for place in range(len(rest)):
            yield rest[:place] + [[things[0]] + rest[place]] + rest[place + 1:]


def least_of_the_fewest(order, is_part):
    # the same things are a part in one sequence at the most
    known = {tuple(sorted(part)): part for part in tuples(order[0]) if is_part(order, part)}
    found = []
    for share in shares(list(range(order[0]))):
        parts = [known.get(tuple(things)) for things in share]
        if None not in parts:
            found.append(sorted(parts))
    fewest = min(len(parts) for parts in found)
    return min(parts for parts in found if len(parts) == fewest)


def tells_of_two(order, one, other):
    less, more = (one, other) in order[1], (other, one) in order[1]
    return {(True, False): "first", (False, True): "second", (True, True): "both", (False, False): "none"}[less, more]


def far(one, other):
    return sum(tells_of_two(one, *two) != tells_of_two(other, *two)
               for two in itertools.combinations(range(one[0]), 2))


def nearest_ones(order):
    """How far the nearest orders are that nothing bars, and all of these, rising."""
    distances = {near: far(order, near) for near in unbarred(order[0])}
    least = min(distances.values())
    return least, sorted(near for near, distance in distances.items() if distance == least)


def full_rows(order):
    rows = itertools.permutations(range(order[0]))
    return sorted(row for row in rows if all(row.index(less) < row.index(more) for less, more in order[1]))


def part_ahead(rows, one, other):
    return fractions.Fraction(sum(row.index(one) < row.index(other) for row in rows), len(rows))


def random_several(chance, many, places):
    """Several orders told by the same numbers, one of which may be another order."""
    values = tuple(chance.randint(0, chance.choice((3, 9, 20))) for thing in range(many))
    found = []
    for place in range(places):
        step = chance.randint(1, 9)
        found.append((order_of(values, step), step))
    if chance.random() < 0.5:
        found[chance.randrange(places)] = (random_unbarred(chance, many), chance.randint(1, 9))
    return found


def demand_of_one(order, step, one, other):
    if (one, other) in order[1]:
        return step
    return None if (other, one) in order[1] else 1 - step


def least_for_all(several):
    """The greatest sum of any order's demands on any way to a thing, or None where ways rise for ever."""
    many = several[0][0][0]
    none = -10 ** 9
    ways = [[0 if a == b else none for b in range(many)] for a in range(many)]
    for (order, step), a, b in itertools.product(several, range(many), range(many)):
        by = demand_of_one(order, step, a, b)
        if a != b and by is not None:
            ways[a][b] = max(ways[a][b], by)
    for middle, a, b in itertools.product(range(many), repeat=3):
        ways[a][b] = max(ways[a][b], ways[a][middle] + ways[middle][b])
    if any(ways[a][a] > 0 for a in range(many)):
        return None
    return tuple(max(ways[a][b] for a in range(many)) for b in range(many))


def holds_round_for(several, parts):
    total = 0
    for number, (thing, place) in enumerate(parts):
        following = parts[(number + 1) % len(parts)][0]
        by = demand_of_one(several[place][0], several[place][1], thing, following)
        if by is None:
            return False
        total += by
    return total > 0


def lists_of_parts(many, places):
    """Every list of two or more unlike things, each with a place."""
    for length in range(2, many + 1):
        for things in itertools.permutations(range(many), length):
            for chosen in itertools.product(range(places), repeat=length):
                yield list(zip(things, chosen))


def text_of(order):
    return " ".join([str(order[0]) + ":"] + [str(less) + "<" + str(more) for less, more in order[1]])


def order_in(text):
    """The order that a text writes, or None."""
    match = re.fullmatch("([1-8]):((?: [0-7]<[0-7])*)", text, re.ASCII)
    if match is None:
        return None
    many, pairs = int(match[1]), [(int(part[0]), int(part[2])) for part in match[2].split()]
    fine = all(less != more and less < many and more < many for less, more in pairs)
    return (many, tuple(pairs)) if fine and pairs == sorted(set(pairs)) else None


def text_of_keeper(order):
    """What was told of the things of an order that a keeper has."""
    letters = {"first": "m", "second": "l", "none": "b"}
    return " ".join("".join(letters[tells_of_two(order, thing, newest)] for thing in range(newest))
                    for newest in range(1, order[0]))
