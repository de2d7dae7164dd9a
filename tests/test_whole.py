"""What holds over the whole program: the interface, and the document's general words."""

import copy
import importlib
import inspect
import itertools
import unittest

from noticed import bars, changing, groups, keepers, listing, mending, numbers, orders, rows, several, writing
from noticed.errors import (Barred, Full, NoCount, NoNames, NoNumbers, NoOrder, NoRow, NoSeveral, NoStep, NoTelling,
                            NoText, NoThing, OrderError)
from tests import wrong

INTERFACE = {
    "orders": ["told(step, numbers)", "fits(order, step, numbers)", "beside(order, thing)",
               "parted(order, one, other)"],
    "bars": ["bar(order)", "is_bar(order, thing)"],
    "numbers": ["numbers(order, step)", "round_of(order, step)", "is_round(order, step, thing)", "least_step(order)",
                "least(order)"],
    "rows": ["row(order)", "longest(order)", "all_orders(many)"],
    "keepers": ["Keeper()"],
    "changing": ["turned(order)", "renamed(order, names)", "without(order, thing)", "joined(one, other)",
                 "laid(one, other)"],
    "groups": ["widest(order)", "longest_line(order)", "few_groups(order)", "few_lines(order)"],
    "mending": ["unlike(one, other)", "how_far(order)", "nearest(order)"],
    "listing": ["how_many(order)", "full_row(order, number)", "place_of(order, row)", "chance(order, one, other)"],
    "several": ["numbers_for(several)", "tells_all(several, numbers)", "bar_for(several)",
                "is_bar_for(several, thing)"],
    "writing": ["written(order)", "read(text)", "keeper_text(keeper)", "keeper_of(text)"],
}
KEEPER = ["order(self)", "come(self, telling)", "numbers(self)", "undo(self)"]

ORDER = (3, ((0, 2),))
CROSSED = [((2, ((0, 1),)), 5), ((2, ()), 3)]

# each call with what is handed in rightly, and wrongly with its refusal, in the order in which refusals are named
AN_ORDER = (ORDER, (3, [(0, 2)]), NoOrder)
A_STEP = (2, 0, NoStep)
A_THING = (1, 3, NoThing)
ANOTHER_THING = (2, True, NoThing)
SOME_NUMBERS = ((0, 1, 2), [0, 1, 2], NoNumbers)
SOME_ORDERS = (CROSSED, [((2, ((0, 1),)), 5), ((2, ()), 0)], NoSeveral)
CALLS = [
    (orders.told, [A_STEP, SOME_NUMBERS]),
    (orders.fits, [AN_ORDER, A_STEP, SOME_NUMBERS]),
    (orders.beside, [AN_ORDER, A_THING]),
    (orders.parted, [AN_ORDER, A_THING, ANOTHER_THING]),
    (bars.bar, [AN_ORDER]),
    (bars.is_bar, [AN_ORDER, (("two", 0, 1, 2, 0), ("two", 0, 1, 2, 0), None)]),
    (numbers.numbers, [AN_ORDER, A_STEP]),
    (numbers.round_of, [AN_ORDER, (1, 1000, NoStep)]),
    (numbers.is_round, [AN_ORDER, A_STEP, ([0, 2, 1], [[0, 2, 1]], None)]),
    (numbers.least_step, [AN_ORDER]),
    (numbers.least, [AN_ORDER]),
    (rows.row, [AN_ORDER]),
    (rows.longest, [AN_ORDER]),
    (rows.all_orders, [(3, 4, NoCount)]),
    (changing.turned, [AN_ORDER]),
    (changing.renamed, [AN_ORDER, ((2, 0, 1), [2, 0, 1], NoNames)]),
    (changing.without, [AN_ORDER, A_THING]),
    (changing.joined, [AN_ORDER, AN_ORDER]),
    (changing.laid, [AN_ORDER, AN_ORDER]),
    (groups.widest, [AN_ORDER]),
    (groups.longest_line, [AN_ORDER]),
    (groups.few_groups, [AN_ORDER]),
    (groups.few_lines, [AN_ORDER]),
    (mending.unlike, [AN_ORDER, AN_ORDER]),
    (mending.how_far, [AN_ORDER]),
    (mending.nearest, [AN_ORDER]),
    (listing.how_many, [AN_ORDER]),
    (listing.full_row, [AN_ORDER, (2, 3, NoCount)]),
    (listing.place_of, [AN_ORDER, ((1, 0, 2), (2, 0, 1), NoRow)]),
    (listing.chance, [AN_ORDER, A_THING, ANOTHER_THING]),
    (several.numbers_for, [SOME_ORDERS]),
    (several.tells_all, [SOME_ORDERS, ((0, 1), [0, 1], NoNumbers)]),
    (several.bar_for, [SOME_ORDERS]),
    (several.is_bar_for, [SOME_ORDERS, ([(0, 0), (1, 1)], [[0, 0], [1, 1]], None)]),
    (writing.written, [AN_ORDER]),
    (writing.read, [("3: 0<2", ["3: 0<2"], NoText)]),
]
TELL_BARRED = [numbers.least_step, numbers.least, rows.row, rows.longest, groups.widest, groups.longest_line,
               groups.few_groups, groups.few_lines, listing.how_many, listing.full_row, listing.place_of,
               listing.chance]


def answer(function, given):
    try:
        return function(*given)
    except OrderError as refusal:
        return refusal.__class__


def all_answers():
    return [answer(function, copy.deepcopy([right for right, bad, refusal in kinds])) for function, kinds in CALLS]


class Interface(unittest.TestCase):
    def test_names_and_arguments(self):
        for module, calls in INTERFACE.items():
            for call in calls:
                name = call.partition("(")[0]
                found = getattr(importlib.import_module("noticed." + module), name)
                self.assertEqual(name + str(inspect.signature(found)), call)

    def test_methods_of_keepers(self):
        for call in KEEPER:
            name = call.partition("(")[0]
            self.assertEqual(name + str(inspect.signature(getattr(keepers.Keeper, name))), call)

    def test_every_function_is_called_below(self):
        called = {function.__name__ for function, kinds in CALLS}
        told = {call.partition("(")[0] for calls in INTERFACE.values() for call in calls}
        self.assertEqual(told - called, {"Keeper", "keeper_text", "keeper_of"})


class Answers(unittest.TestCase):
    def test_nothing_that_is_right_is_refused(self):
        for found in all_answers():
            self.assertFalse(inspect.isclass(found), found)

    def test_equal_things_give_equal_answers(self):
        first = all_answers()
        self.assertEqual(all_answers(), first)
        for function, kinds in reversed(CALLS):
            answer(function, [bad for right, bad, refusal in kinds])
        self.assertEqual(all_answers(), first)

    def test_what_is_handed_in_is_not_changed(self):
        for function, kinds in CALLS:
            for chosen in itertools.product((0, 1), repeat=len(kinds)):
                given = [kind[which] for kind, which in zip(kinds, chosen)]
                before = copy.deepcopy(given)
                answer(function, given)
                self.assertEqual(given, before)

    def test_lists_are_new_each_time(self):
        for function, kinds in CALLS:
            given = [right for right, bad, refusal in kinds]
            found = function(*given)
            if isinstance(found, list):
                before = copy.deepcopy(found)
                for part in found:
                    if isinstance(part, list):
                        part.clear()
                found.clear()
                self.assertEqual(function(*given), before)

    def test_whole_numbers_are_told_as_such(self):
        for function, kinds in CALLS:
            found = function(*[right for right, bad, refusal in kinds])
            if not isinstance(found, bool):
                self.no_truth_within(found)

    def no_truth_within(self, found):
        self.assertNotIsInstance(found, bool)
        if isinstance(found, (list, tuple)):
            for part in found:
                self.no_truth_within(part)


class Refusals(unittest.TestCase):
    def test_the_one_that_is_named_first(self):
        for function, kinds in CALLS:
            for chosen in itertools.product((0, 1), repeat=len(kinds)):
                given = [kind[which] for kind, which in zip(kinds, chosen)]
                named = [kind[2] for kind, which in zip(kinds, chosen) if which and kind[2] is not None]
                if named:
                    self.assertIs(answer(function, given), named[0], (function.__name__, given))
                else:
                    self.assertFalse(inspect.isclass(answer(function, given)))

    def test_barred_behind_no_order_and_ahead_of_the_rest(self):
        barred = (4, ((0, 1), (2, 3)))
        for function, kinds in CALLS:
            if function in TELL_BARRED:
                for chosen in itertools.product((0, 1), repeat=len(kinds) - 1):
                    given = [barred] + [kind[which] for kind, which in zip(kinds[1:], chosen)]
                    self.assertIs(answer(function, given), Barred)

    def test_full_and_counts_behind_no_order(self):
        wide, worse = (8, ()), (8, [])
        for function in (changing.joined, changing.laid):
            self.assertIs(answer(function, (wide, wide)), Full)
            self.assertIs(answer(function, (wide, worse)), NoOrder)
        for function in (mending.how_far, mending.nearest):
            self.assertIs(answer(function, (wide,)), Full)
            self.assertIs(answer(function, (worse,)), NoOrder)
        self.assertIs(answer(mending.unlike, (wide, ORDER)), NoCount)
        self.assertIs(answer(mending.unlike, (worse, ORDER)), NoOrder)
        self.assertIs(answer(changing.without, ((1, ()), 0)), NoCount)
        self.assertIs(answer(changing.without, ((1, ()), 1)), NoThing)

    def test_things_of_any_kind_in_every_place(self):
        for function, kinds in CALLS:
            for place in range(len(kinds)):
                for thing in wrong.no_whole_numbers():
                    # these are the numbers of one thing
                    if function == orders.told and isinstance(thing, tuple) and len(thing) == 1:
                        continue
                    given = [right for right, bad, refusal in kinds]
                    given[place] = thing
                    if kinds[place][2] is None:
                        self.assertIs(answer(function, given), False)
                    else:
                        self.assertIs(answer(function, given), kinds[place][2], (function.__name__, place))

    def test_a_keeper_is_as_it_was(self):
        keeper = keepers.Keeper()
        keeper.come(("more",))
        for telling, refusal in ((None, NoTelling), (("more", True), NoTelling), (("less", "more"), Barred)):
            self.assertIs(answer(keeper.come, (telling,)), refusal)
            self.assertEqual(keeper.order(), (2, ((0, 1),)))
            self.assertEqual(keeper.numbers(), (1, (0, 1)))
            self.assertEqual(writing.keeper_text(keeper), "m")


if __name__ == "__main__":
    unittest.main()
