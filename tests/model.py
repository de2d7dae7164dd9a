"""The document's words once more, by trying everything, to hold the program against."""

import itertools


def all_relations(many):
    """Every order of so many things, also those that something bars."""
    pairs = list(itertools.permutations(range(many), 2))
    for chosen in itertools.product((False, True), repeat=len(pairs)):
        yield (many, tuple(pair for pair, there in zip(pairs, chosen) if there))


def random_relation(chance, many):
    pairs = itertools.permutations(range(many), 2)
    part = chance.random()
    return (many, tuple(pair for pair in pairs if chance.random() < part))


def order_of(values, step):
    pairs = []
    for one, other in itertools.permutations(range(len(values)), 2):
        if values[other] >= values[one] + step:
            pairs.append((one, other))
    return (len(values), tuple(sorted(pairs)))


def chain(many):
    return (many, tuple(itertools.combinations(range(many), 2)))


def holds_bar(order, word, a, b, c, d):
    less = set(order[1])
    if word == "two":
        return {(a, b), (c, d)} <= less and not {(a, d), (c, b)} & less
    return {(a, b), (b, c)} <= less and not {(a, d), (d, c)} & less


def bars(order):
    found = []
    for word in ("two", "three"):
        for four in itertools.product(range(order[0]), repeat=4):
            if holds_bar(order, word, *four):
                found.append((word,) + four)
    return found


def holds_round(order, step, things):
    less = set(order[1])
    total = 0
    for one, following in zip(things, things[1:] + things[:1]):
        if (one, following) in less:
            total += step
        elif (following, one) not in less:
            total += 1 - step
        else:
            return False
    return total > 0


def rounds(order, step):
    found = []
    for length in range(2, order[0] + 1):
        for things in itertools.permutations(range(order[0]), length):
            if holds_round(order, step, list(things)):
                found.append(list(things))
    return found


def least_by_trying(many, step):
    """The least numbers of each order that numbers tell by the threshold."""
    least = {}
    for values in itertools.product(range((many - 1) * step + 1), repeat=many):
        order = order_of(values, step)
        before = least.get(order, values)
        least[order] = tuple(min(two) for two in zip(before, values))
    return least


def least_by_ways(order, step):
    """The greatest sum of demands on any way to a thing, or None where ways rise for ever."""
    many, less = order[0], set(order[1])
    none = -10 ** 9
    far = [[0 if a == b else none for b in range(many)] for a in range(many)]
    for a, b in itertools.permutations(range(many), 2):
        if (a, b) in less:
            far[a][b] = step
        elif (b, a) not in less:
            far[a][b] = 1 - step
    for middle, a, b in itertools.product(range(many), repeat=3):
        far[a][b] = max(far[a][b], far[a][middle] + far[middle][b])
    if any(far[a][a] > 0 for a in range(many)):
        return None
    return tuple(max(far[a][b] for a in range(many)) for b in range(many))
