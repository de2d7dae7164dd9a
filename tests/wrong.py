"""Wrong inputs of every kind but numbers with a point."""


class Touchy:
    """A thing that must not be compared or used as a key."""

    def __eq__(self, other):
        raise RuntimeError("compared")

    def __lt__(self, other):
        raise RuntimeError("compared")

    __gt__ = __le__ = __ge__ = __ne__ = __lt__
    __hash__ = None

    def __repr__(self):
        raise RuntimeError("shown")

    __str__ = __bool__ = __len__ = __iter__ = __repr__


def within_itself():
    things = []
    things.append(things)
    return things


def is_empty_tuple(thing):
    return isinstance(thing, tuple) and len(thing) == 0


def no_whole_numbers():
    return [None, True, False, "", "1", "two", b"1", (), (1,), [], [1], {}, {1: 1}, {1}, frozenset(),
            object(), int, len, range(3), Touchy(), within_itself(), Ellipsis, 1j, iter(())]


def no_orders():
    found = no_whole_numbers() + [0, 1, 8, -1]
    found += [(1, (), ()), [1, ()], {1: ()}, "1:", ((), 1)]
    found += [(many, ()) for many in no_whole_numbers() + [0, -1, 9, 10 ** 30, -10 ** 30]]
    found += [(2, pairs) for pairs in no_whole_numbers() + [(0,), (1,)] if not is_empty_tuple(pairs)]
    found += [(2, [(0, 1)]), (2, {(0, 1)}), (2, {(0, 1): True}), (2, (0, 1)), (2, iter([(0, 1)]))]
    found += [(2, (pair,)) for pair in no_whole_numbers()]
    found += [(2, ((0, 1), pair)) for pair in no_whole_numbers()]
    found += [(2, ((0,),)), (2, ((0, 1, 1),)), (2, ([0, 1],)), (2, ("01",)), (2, ({0, 1},))]
    found += [(2, ((thing, 1),)) for thing in no_whole_numbers() + [2, -1, 10 ** 30]]
    found += [(2, ((0, thing),)) for thing in no_whole_numbers() + [2, -1, 10 ** 30]]
    found += [(2, ((False, 1),)), (2, ((0, True),)), (2, ((False, True),)), (True, ())]
    found += [(1, ((0, 0),)), (2, ((1, 1),)), (1, ((0, 1),)), (8, ((0, 8),)), (8, ((8, 0),))]
    found += [(2, ((0, 1), (0, 1))), (2, ((1, 0), (0, 1))), (3, ((0, 2), (0, 1))), (3, ((0, 1), (1, 2), (0, 2)))]
    found += [(3, ((0, 1), (0, 2), (0, 2), (1, 2))), (9, ((0, 1),)), (0, ((0, 1),))]
    return found


def no_steps():
    return no_whole_numbers() + [0, -1, 1000, 1001, 10 ** 30, -999]


def no_things(many):
    return no_whole_numbers() + [-1, many, many + 1, 10 ** 30, -10 ** 30]


def no_numbers(many):
    rest = (0,) * (many - 1)
    # a tuple of whole numbers may be numbers of other things, so only the empty one is surely none
    found = [thing for thing in no_whole_numbers() if not isinstance(thing, tuple)]
    found += [(), 0, 5]
    found += [[0] * many, {0: 0}, iter([0] * many), range(many)]
    found += [(number,) + rest for number in no_whole_numbers() + [-1, 10000, 10 ** 30]]
    found += [rest + (number,) for number in no_whole_numbers() + [-1, 10000, 10 ** 30]]
    return found


def no_counts():
    return no_whole_numbers() + [0, 4, 5, 8, -1, 10 ** 30, -10 ** 30]


def no_names(many):
    names = tuple(range(many))
    found = [thing for thing in no_whole_numbers() if not isinstance(thing, tuple)]
    found += [(), 0, many, names[1:], names + (many,), names + (0,), list(names), range(many), iter(names)]
    found += [set(names), dict(zip(names, names)), tuple(thing + 1 for thing in names)]
    for place in range(many):
        for thing in no_things(many) + [other for other in names if other != place]:
            found.append(names[:place] + (thing,) + names[place + 1:])
    return found


def no_tellings(many):
    telling = ("beside",) * many
    found = [thing for thing in no_whole_numbers()]
    found += [(), telling[1:], telling + ("beside",), list(telling), iter(telling), set(telling), "beside", "l" * many]
    found += [dict.fromkeys(range(many), "beside"), tuple(range(many))]
    for place in range(many):
        for word in no_whole_numbers() + [0, 1, -1, "Less", "less ", "l", "les", "equal", ("less",), b"less"]:
            found.append(telling[:place] + (word,) + telling[place + 1:])
    return found


def no_rows(order):
    """What is no full row of an order in which 0 is noticed to be less than another thing."""
    names = tuple(range(order[0]))
    return no_names(order[0]) + [names[::-1], names[1:] + (0,)]


def no_several():
    order, other = (2, ((0, 1),)), (3, ((0, 1),))
    found = no_whole_numbers() + [0, 1, order, (order, 1), [order, 1], [order], [1, order], [(1, order)]]
    found += [((order, 1),), {0: (order, 1)}, iter([(order, 1)]), {(order, 1)}, [(order, 1)] * 4, [(order, 1)] * 5]
    found += [[(order, 1), (other, 1)], [(other, 1), (order, 1)], [(order, 1), (order, 2), (other, 1)]]
    found += [[(order, 1), (other, 1), (order, 1)], [[order, 1]], [(order,)], [(order, 1, 1)], [((order, 1),)]]
    found += [[(order, step)] for step in no_steps()]
    found += [[(order, 1), (order, step)] for step in no_steps()]
    found += [[(thing, 1)] for thing in no_orders()]
    found += [[(order, 1), (thing, 1)] for thing in no_orders()]
    found += [[part] for part in no_whole_numbers()]
    found += [[(order, 1), (order, 1), part] for part in no_whole_numbers()]
    return found


def no_parts(several):
    """What is no round for several orders, by its form alone."""
    many, places = several[0][0][0], len(several)
    found = no_whole_numbers() + [0, [(0, 0)], ((0, 0), (1, 0)), {0: 0, 1: 0}, iter([(0, 0), (1, 0)]), [0, 1]]
    found += [[(0, 0), (1, 0), (0, 0)], [(0, 0), (0, 0)], [(0, 0), [1, 0]], [[0, 0], (1, 0)], [(0,), (1,)]]
    found += [[(0, 0, 0), (1, 0, 0)], [(0, 0), (1, 0, 0)], [(0, 0), ()], [((0, 0), (1, 0))]]
    for thing in no_things(many):
        found += [[(thing, 0), (1, 0)], [(0, 0), (thing, 0)], [thing, (0, 0)], [(0, 0), (1, 0), thing]]
    for place in no_things(places):
        found += [[(0, place), (1, 0)], [(0, 0), (1, place)]]
    return found


def no_texts():
    """What is no text, or the text of neither an order nor a keeper."""
    found = [thing for thing in no_whole_numbers() if not isinstance(thing, str)]
    return found + [0, 1, 8, (1, ()), (2, ((0, 1),)), b"1:", b"", ["1:"], ("1:",), ("m",), " ", "  ", "\n", "1", ":"]
