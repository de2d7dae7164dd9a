"""Keepers: an order that is kept while things come and are taken back."""

from noticed.bars import need_unbarred
from noticed.changing import without
from noticed.checks import MOST_THINGS, need_telling
from noticed.errors import Full, Nothing
from noticed.numbers import least


def with_newest(order, telling):
    newest = order[0]
    pairs = list(order[1])
    for thing, word in enumerate(telling):
        if word == "less":
            pairs.append((newest, thing))
        if word == "more":
            pairs.append((thing, newest))
    return (newest + 1, tuple(sorted(pairs)))


class Keeper:
    def __init__(self):
        self.kept = (1, ())

    def order(self):
        return self.kept

    def come(self, telling):
        newest = self.kept[0]
        need_telling(telling, newest)
        if newest == MOST_THINGS:
            raise Full("a keeper has at most 8 things")
        grown = with_newest(self.kept, telling)
        need_unbarred(grown)
        self.kept = grown
        return newest

    def numbers(self):
        return least(self.kept)

    def undo(self):
        if self.kept[0] == 1:
            raise Nothing("the first thing can't be taken back")
        self.kept = without(self.kept, self.kept[0] - 1)
