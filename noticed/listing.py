"""Full rows: all things one behind another, numbered as they rise, and how likely one is ahead."""

from noticed.bars import need_unbarred
from noticed.checks import is_names, is_whole, need_thing
from noticed.errors import NoCount, NoRow, NoThing


def firsts_of(pairs, things):
    return [thing for thing in things if all([(other, thing) not in pairs for other in things])]


def rest_without(things, thing):
    return tuple([other for other in things if other != thing])


# The same things are left over behind many beginnings, so what was counted is known.
def count_rows(pairs, things, known):
    if len(things) == 0:
        return 1
    if things not in known:
        rests = [rest_without(things, thing) for thing in firsts_of(pairs, things)]
        known[things] = sum([count_rows(pairs, rest, known) for rest in rests])
    return known[things]


# How many full rows of the things begin with one that is less than the thing as a number.
def count_rows_before(pairs, things, thing, known):
    firsts = [first for first in firsts_of(pairs, things) if first < thing]
    return sum([count_rows(pairs, rest_without(things, first), known) for first in firsts])


def how_many(order):
    need_unbarred(order)
    return count_rows(order[1], tuple(range(order[0])), {})


def full_row(order, number):
    if not is_whole(number, 0, how_many(order) - 1):
        raise NoCount("full rows are numbered from 0 on, below how many there are")
    pairs = order[1]
    known = {}
    things = tuple(range(order[0]))
    left = number
    found = ()
    while len(things) > 0:
        firsts = firsts_of(pairs, things)
        thing = max([first for first in firsts if count_rows_before(pairs, things, first, known) <= left])
        left = left - count_rows_before(pairs, things, thing, known)
        found = found + (thing,)
        things = rest_without(things, thing)
    return found


def is_full_row(order, value):
    if not is_names(value, order[0]):
        return False
    return all([value.index(less) < value.index(more) for less, more in order[1]])


def place_of(order, row):
    need_unbarred(order)
    if not is_full_row(order, row):
        raise NoRow("a full row is a tuple of all things, each ahead of those than which it is less")
    known = {}
    place = 0
    things = tuple(range(order[0]))
    for thing in row:
        place = place + count_rows_before(order[1], things, thing, known)
        things = rest_without(things, thing)
    return place


def common_divisor(one, other):
    great = one
    small = other
    while small > 0:
        rest = great % small
        great = small
        small = rest
    return great


def chance(order, one, other):
    lower = how_many(order)
    need_thing(one, order[0])
    need_thing(other, order[0])
    if one == other:
        raise NoThing("a chance is told of two things, not of one and the same")
    # the rows with one ahead of the other are those of the order with this pair, too
    upper = count_rows(order[1] + ((one, other),), tuple(range(order[0])), {})
    divisor = common_divisor(upper, lower)
    return (upper // divisor, lower // divisor)
