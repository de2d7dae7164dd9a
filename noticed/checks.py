"""What is handed in, looked at before anything is told of it.

Things of any kind may come here, so nothing is compared or used as a key
before its kind is known.
"""

from noticed.errors import NoNames, NoNumbers, NoOrder, NoSeveral, NoStep, NoTelling, NoThing

MOST_THINGS = 8
MOST_STEP = 999
MOST_NUMBER = 9999
MOST_SEVERAL = 3
TELLING_WORDS = ("less", "more", "beside")


def is_whole(value, low, high):
    # for Python True and False are whole numbers, here they are none
    if isinstance(value, bool) or not isinstance(value, int):
        return False
    return low <= value <= high


def is_thing(value, many):
    return is_whole(value, 0, many - 1)


def is_pair(value, many):
    if not isinstance(value, tuple) or len(value) != 2:
        return False
    if not is_thing(value[0], many) or not is_thing(value[1], many):
        return False
    return value[0] != value[1]


def is_rising(pairs):
    return all([pairs[place] < pairs[place + 1] for place in range(len(pairs) - 1)])


def is_order(value):
    if not isinstance(value, tuple) or len(value) != 2:
        return False
    many = value[0]
    pairs = value[1]
    if not is_whole(many, 1, MOST_THINGS) or not isinstance(pairs, tuple):
        return False
    return all([is_pair(pair, many) for pair in pairs]) and is_rising(pairs)


def is_step(value):
    return is_whole(value, 1, MOST_STEP)


def is_numbers(value, fewest, most):
    if not isinstance(value, tuple) or not fewest <= len(value) <= most:
        return False
    return all([is_whole(number, 0, MOST_NUMBER) for number in value])


def is_names(value, many):
    if not isinstance(value, tuple) or not all([is_thing(name, many) for name in value]):
        return False
    return sorted(value) == list(range(many))


def is_telling(value, many):
    if not isinstance(value, tuple) or len(value) != many:
        return False
    return all([isinstance(word, str) and word in TELLING_WORDS for word in value])


def is_order_with_step(value):
    if not isinstance(value, tuple) or len(value) != 2:
        return False
    return is_order(value[0]) and is_step(value[1])


def is_several(value):
    if not isinstance(value, list) or not 1 <= len(value) <= MOST_SEVERAL:
        return False
    if not all([is_order_with_step(part) for part in value]):
        return False
    counts = [order[0] for order, step in value]
    return min(counts) == max(counts)


def need_order(value):
    if not is_order(value):
        raise NoOrder("an order is a tuple of how many things there are and a rising tuple of pairs")


def need_step(value):
    if not is_step(value):
        raise NoStep("a threshold is a whole number from 1 to 999")


def need_numbers(value, fewest, most):
    if not is_numbers(value, fewest, most):
        raise NoNumbers("numbers are a tuple of a whole number from 0 to 9999 for each thing")


def need_thing(value, many):
    if not is_thing(value, many):
        raise NoThing("a thing is a whole number from 0 on, below how many things there are")


def need_names(value, many):
    if not is_names(value, many):
        raise NoNames("names are a tuple of all things, each once")


def need_telling(value, many):
    if not is_telling(value, many):
        raise NoTelling("a telling is a tuple of less, more or beside for each thing that is there")


def need_several(value):
    if not is_several(value):
        raise NoSeveral("several orders are a list of 1 to 3 tuples of an order and a threshold, of as many things")
