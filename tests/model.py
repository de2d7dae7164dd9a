"""The document's words once more, by trying everything, to hold the program against."""

import functools
import itertools

BARRED = [(2, ((0, 1), (1, 0))), (3, ((0, 1), (1, 2))), (3, ((0, 1), (1, 2), (2, 0))), (4, ((0, 1), (2, 3))),
          (4, ((0, 1), (0, 2), (1, 2))), (8, ((4, 5), (6, 7)))]


def all_relations(many):
    """Every order of so many things, also those that something bars."""
    pairs = list(itertools.permutations(range(many), 2))
    for chosen in itertools.product((False, True), repeat=len(pairs)):
        yield (many, tuple(pair for pair, there in zip(pairs, chosen) if there))


def random_relation(chance, many):
    pairs = itertools.permutations(range(many), 2)
    part = chance.random()
    return (many, tuple(pair for pair in pairs if chance.random() < part))


def order_of(values, step):
    pairs = []
    for one, other in itertools.permutations(range(len(values)), 2):
        if values[other] >= values[one] + step:
            pairs.append((one, other))
    return (len(values), tuple(sorted(pairs)))


def chain(many):
    return (many, tuple(itertools.combinations(range(many), 2)))


def holds_bar(order, word, a, b, c, d):
    less = set(order[1])
    if word == "two":
        return {(a, b), (c, d)} <= less and not {(a, d), (c, b)} & less
    return {(a, b), (b, c)} <= less and not {(a, d), (d, c)} & less


def bars(order):
    found = []
    for word in ("two", "three"):
        for four in itertools.product(range(order[0]), repeat=4):
            if holds_bar(order, word, *four):
                found.append((word,) + four)
    return found


def holds_round(order, step, things):
    less = set(order[1])
    total = 0
    for one, following in zip(things, things[1:] + things[:1]):
        if (one, following) in less:
            total += step
        elif (following, one) not in less:
            total += 1 - step
        else:
            return False
    return total > 0


def rounds(order, step):
    found = []
    for length in range(2, order[0] + 1):
        for things in itertools.permutations(range(order[0]), length):
            if holds_round(order, step, list(things)):
                found.append(list(things))
    return found


def least_by_trying(many, step):
    """The least numbers of each order that numbers tell by the threshold."""
    least = {}
    for values in itertools.product(range((many - 1) * step + 1), repeat=many):
        order = order_of(values, step)
        before = least.get(order, values)
        least[order] = tuple(min(two) for two in zip(before, values))
    return least


def least_by_ways(order, step):
    """The greatest sum of demands on any way to a thing, or None where ways rise for ever."""
    many, less = order[0], set(order[1])
    none = -10 ** 9
    far = [[0 if a == b else none for b in range(many)] for a in range(many)]
    for a, b in itertools.permutations(range(many), 2):
        if (a, b) in less:
            far[a][b] = step
        elif (b, a) not in less:
            far[a][b] = 1 - step
    for middle, a, b in itertools.product(range(many), repeat=3):
        far[a][b] = max(far[a][b], far[a][middle] + far[middle][b])
    if any(far[a][a] > 0 for a in range(many)):
        return None
    return tuple(max(far[a][b] for a in range(many)) for b in range(many))


@functools.cache
def unbarred(many):
    """Every order of so many things that nothing bars."""
    return tuple(order for order in all_relations(many) if not bars(order))


def random_unbarred(chance, many):
    return order_of(tuple(chance.randint(0, chance.choice((3, 9, 20))) for thing in range(many)), chance.randint(1, 9))


def less_than(order, thing):
    return {one for one, other in order[1] if other == thing}


def more_than(order, thing):
    return {other for one, other in order[1] if one == thing}


def are_alike(order, one, other):
    return less_than(order, one) == less_than(order, other) and more_than(order, one) == more_than(order, other)


def is_ahead(order, one, other):
    if more_than(order, one) - more_than(order, other):
        return True
    return bool(less_than(order, other) - less_than(order, one))


def is_group(order, part):
    return all(one < other and not {(one, other), (other, one)} & set(order[1])
               for one, other in itertools.combinations(part, 2))


def is_line(order, part):
    return all(pair in order[1] for pair in zip(part, part[1:]))


def tuples(many):
    for length in range(1, many + 1):
        yield from itertools.permutations(range(many), length)


def least_of_the_most(order, is_part):
    parts = [part for part in tuples(order[0]) if is_part(order, part)]
    most = max(len(part) for part in parts)
    return min(part for part in parts if len(part) == most)


def shares(things):
    """Every way to share things out among lists, each thing in just one."""
    if not things:
        yield []
        return
    for rest in shares(things[1:]):
        yield [[things[0]]] + rest
        for place in range(len(rest)):
            yield rest[:place] + [[things[0]] + rest[place]] + rest[place + 1:]


def least_of_the_fewest(order, is_part):
    # the same things are a part in one sequence at the most
    known = {tuple(sorted(part)): part for part in tuples(order[0]) if is_part(order, part)}
    found = []
    for share in shares(list(range(order[0]))):
        parts = [known.get(tuple(things)) for things in share]
        if None not in parts:
            found.append(sorted(parts))
    fewest = min(len(parts) for parts in found)
    return min(parts for parts in found if len(parts) == fewest)
