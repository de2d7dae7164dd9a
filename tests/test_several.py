import copy
import itertools
import random
import unittest

from noticed.errors import NoNumbers, NoSeveral
from noticed.numbers import is_round, numbers
from noticed.several import bar_for, is_bar_for, numbers_for, tells_all
from tests import model, wrong

WIDE = (3, ((0, 2),))
LINE = (3, ((0, 1), (0, 2), (1, 2)))
# told by 2 and by 1 together, but not by 2 and by 2
GOOD = [(WIDE, 2), (LINE, 1)]
BAD = [(WIDE, 2), (LINE, 2)]
# by the first one 1 is greater by 5 or more, by the second one by 2 or less
CROSSED = [((2, ((0, 1),)), 5), ((2, ()), 3)]


def few_several():
    """Two orders of three things with thresholds, for all orders that nothing bars."""
    chance = random.Random(141)
    for one, other in itertools.product(model.unbarred(3), repeat=2):
        yield [(one, chance.randint(1, 3)), (other, chance.randint(1, 3))]


def more_several():
    chance = random.Random(142)
    for many in range(1, 9):
        for places in (1, 2, 3):
            for turn in range(25):
                yield model.random_several(chance, many, places)


class NumbersFor(unittest.TestCase):
    def test_least_numbers_for_all(self):
        self.assertEqual(numbers_for(GOOD), (0, 1, 2))
        self.assertEqual(numbers_for([(WIDE, 5), (LINE, 3)]), (0, 3, 6))
        self.assertEqual(numbers_for([(WIDE, 7), (LINE, 3)]), (0, 3, 7))
        self.assertEqual(numbers_for([((2, ((1, 0),)), 4), ((2, ()), 6)]), (4, 0))

    def test_none(self):
        self.assertIsNone(numbers_for(BAD))
        self.assertIsNone(numbers_for(CROSSED))
        self.assertIsNone(numbers_for([((2, ((0, 1), (1, 0))), 1)]))

    def test_one_order_alone(self):
        for many in (1, 2, 3):
            for order in model.all_relations(many):
                for step in (1, 2, 3, 999):
                    self.assertEqual(numbers_for([(order, step)]), numbers(order, step))

    def test_the_same_order_twice_and_thrice(self):
        for order in model.unbarred(3):
            for step in (1, 2, 5):
                self.assertEqual(numbers_for([(order, step)] * 2), numbers(order, step))
                self.assertEqual(numbers_for([(order, step)] * 3), numbers(order, step))

    def test_three_orders(self):
        values = (0, 1, 3, 7)
        several = [(model.order_of(values, step), step) for step in (1, 2, 4)]
        self.assertEqual(numbers_for(several), model.least_for_all(several))
        self.assertTrue(tells_all(several, values))
        self.assertIsNone(numbers_for(several[:2] + [((4, ()), 4)]))

    def test_each_by_itself_but_not_together(self):
        for several in (BAD, CROSSED):
            for order, step in several:
                self.assertIsNotNone(numbers_for([(order, step)]))
            self.assertIsNone(numbers_for(several))

    def test_the_order_in_the_list_is_of_no_matter(self):
        for several in (GOOD, BAD, CROSSED, [(WIDE, 7), (LINE, 3), ((3, ()), 99)]):
            for turned in itertools.permutations(several):
                self.assertEqual(numbers_for(list(turned)), numbers_for(several))

    def test_eight_things(self):
        self.assertEqual(numbers_for([(model.chain(8), 999)]), tuple(range(0, 7993, 999))[:8])
        self.assertEqual(numbers_for([(model.chain(8), 3), ((8, ()), 22)]), (0, 3, 6, 9, 12, 15, 18, 21))
        self.assertIsNone(numbers_for([(model.chain(8), 3), ((8, ()), 21)]))

    def test_one_thing(self):
        self.assertEqual(numbers_for([((1, ()), 1), ((1, ()), 999), ((1, ()), 5)]), (0,))

    def test_against_the_model(self):
        for several in itertools.chain(few_several(), more_several()):
            self.assertEqual(numbers_for(several), model.least_for_all(several))

    def test_no_less_numbers_tell_them(self):
        for several in few_several():
            found = [values for values in itertools.product(range(7), repeat=3)
                     if all(model.order_of(values, step) == order for order, step in several)]
            least = tuple(min(column) for column in zip(*found)) if found else None
            self.assertEqual(numbers_for(several), least)

    def test_no_several(self):
        for several in wrong.no_several():
            with self.assertRaises(NoSeveral):
                numbers_for(several)


class TellsAll(unittest.TestCase):
    def test_all(self):
        self.assertIs(tells_all(GOOD, (0, 1, 2)), True)
        self.assertIs(tells_all(GOOD, (9997, 9998, 9999)), True)
        self.assertIs(tells_all([(WIDE, 2)], (5, 6, 7)), True)

    def test_all_but_one(self):
        values = (0, 2, 5)
        three = [(model.order_of(values, step), step) for step in (2, 3, 5)]
        self.assertIs(tells_all(three, values), True)
        for place in range(3):
            changed = list(three)
            changed[place] = ((3, ((2, 0),)), three[place][1])
            self.assertIs(tells_all(changed, values), False)
        self.assertIs(tells_all(GOOD, (0, 0, 2)), False)
        self.assertIs(tells_all(GOOD, (0, 2, 4)), False)

    def test_none_of_them(self):
        self.assertIs(tells_all(GOOD, (2, 1, 0)), False)

    def test_one_thing(self):
        self.assertIs(tells_all([((1, ()), 1), ((1, ()), 999)], (9999,)), True)

    def test_against_the_model(self):
        chance = random.Random(143)
        for several in more_several():
            many = several[0][0][0]
            tried = [tuple(chance.randint(0, 9) for thing in range(many)) for turn in range(5)]
            least = model.least_for_all(several)
            for values in tried + ([] if least is None else [least, tuple(value + 7 for value in least)]):
                expected = all(model.order_of(values, step) == order for order, step in several)
                self.assertIs(tells_all(several, values), expected)

    def test_no_numbers(self):
        for many in (1, 2, 8):
            for values in wrong.no_numbers(many):
                with self.assertRaises(NoNumbers):
                    tells_all([((many, ()), 1), ((many, ()), 3)], values)
        for values in ((0,), (0, 0), (0, 0, 0, 0), (0,) * 8):
            with self.assertRaises(NoNumbers):
                tells_all(GOOD, values)

    def test_no_several_is_named_ahead(self):
        for several in wrong.no_several():
            for values in ((0, 0), None, (True, 0)):
                with self.assertRaises(NoSeveral):
                    tells_all(several, values)


class Rounds(unittest.TestCase):
    def test_none_where_numbers_tell_them(self):
        self.assertIsNone(bar_for(GOOD))
        self.assertIsNone(bar_for([((1, ()), 1)]))

    def test_by_several_places(self):
        # from 0 to 1 at least 5 more, from 1 to 0 at most 2 less
        self.assertIs(is_bar_for(CROSSED, [(0, 0), (1, 1)]), True)
        self.assertIs(is_bar_for(CROSSED, [(1, 1), (0, 0)]), True)
        # at place 1 neither way comes to more than 0, at place 0 the way back is told the other way about
        self.assertIs(is_bar_for(CROSSED, [(0, 1), (1, 1)]), False)
        self.assertIs(is_bar_for(CROSSED, [(0, 0), (1, 0)]), False)
        self.assertIs(is_bar_for(CROSSED, [(0, 1), (1, 0)]), False)
        self.assertEqual(sorted(bar_for(CROSSED)), [(0, 0), (1, 1)])

    def test_the_place_is_for_the_way_to_the_next_one(self):
        several = [((3, ((0, 1),)), 4), ((3, ((1, 2),)), 4), ((3, ()), 8)]
        self.assertIs(is_bar_for(several, [(0, 0), (1, 1), (2, 2)]), True)
        self.assertIs(is_bar_for(several, [(1, 1), (2, 2), (0, 0)]), True)
        self.assertIs(is_bar_for(several, [(0, 2), (1, 0), (2, 1)]), False)
        self.assertIs(is_bar_for(several, [(1, 0), (2, 1), (0, 2)]), False)

    def test_just_above_nothing(self):
        for step, expected in ((4, True), (5, True), (6, False), (7, False)):
            several = [((2, ((0, 1),)), 5), ((2, ()), step)]
            self.assertIs(is_bar_for(several, [(0, 0), (1, 1)]), expected)
            self.assertEqual(numbers_for(several) is None, expected)

    def test_told_both_ways(self):
        several = [((2, ((0, 1), (1, 0))), 1)]
        self.assertIs(is_bar_for(several, [(0, 0), (1, 0)]), True)
        self.assertEqual(sorted(bar_for(several)), [(0, 0), (1, 0)])

    def test_one_order_alone_as_its_rounds(self):
        for order in model.all_relations(3):
            for step in (1, 2):
                for things in itertools.chain(*[itertools.permutations(range(3), many) for many in (2, 3)]):
                    parts = [(thing, 0) for thing in things]
                    self.assertIs(is_bar_for([(order, step)], parts), is_round(order, step, list(things)))

    def test_all_rounds_of_few_things(self):
        for several in few_several():
            found = 0
            for parts in model.lists_of_parts(3, 2):
                expected = model.holds_round_for(several, parts)
                self.assertIs(is_bar_for(several, parts), expected)
                found += expected
            self.assertEqual(bar_for(several) is None, found == 0)

    def test_a_round_just_where_no_numbers_tell_them(self):
        barred = 0
        for several in itertools.chain(few_several(), more_several()):
            parts = bar_for(several)
            if model.least_for_all(several) is not None:
                self.assertIsNone(parts)
            else:
                barred += 1
                self.is_told_as_round(several, parts)
        self.assertGreater(barred, 300)

    def is_told_as_round(self, several, parts):
        self.assertIsInstance(parts, list)
        self.assertGreaterEqual(len(parts), 2)
        self.assertTrue(all(isinstance(part, tuple) and len(part) == 2 for part in parts))
        self.assertEqual(len({thing for thing, place in parts}), len(parts))
        self.assertTrue(all(0 <= place < len(several) for thing, place in parts))
        self.assertTrue(model.holds_round_for(several, parts))
        self.assertIs(is_bar_for(several, parts), True)

    def test_orders_that_four_things_bar(self):
        chance = random.Random(144)
        for turn in range(300):
            many, places = chance.randint(2, 8), chance.randint(1, 3)
            several = [(model.random_relation(chance, many), chance.randint(1, 5)) for place in range(places)]
            if model.least_for_all(several) is None:
                self.is_told_as_round(several, bar_for(several))
            else:
                self.assertIsNone(bar_for(several))

    def test_no_round_by_its_form(self):
        for several in (BAD, CROSSED, [((2, ((0, 1), (1, 0))), 1)], [((1, ()), 1)]):
            for thing in wrong.no_parts(several):
                self.assertIs(is_bar_for(several, thing), False)

    def test_true_and_false_in_rounds(self):
        for parts in ([(False, 0), (1, 1)], [(0, False), (1, 1)], [(0, 0), (True, 1)], [(0, 0), (1, True)]):
            self.assertIs(is_bar_for(CROSSED, parts), False)

    def test_no_several(self):
        for several in wrong.no_several():
            with self.assertRaises(NoSeveral):
                bar_for(several)
            for thing in ([(0, 0), (1, 0)], None, True):
                with self.assertRaises(NoSeveral):
                    is_bar_for(several, thing)


class NothingIsChanged(unittest.TestCase):
    def test_what_is_handed_in(self):
        for several in (GOOD, BAD, CROSSED):
            before = copy.deepcopy(several)
            parts = [(0, 0), (1, 1)]
            numbers_for(several)
            tells_all(several, (0,) * several[0][0][0])
            bar_for(several)
            is_bar_for(several, parts)
            self.assertEqual(several, before)
            self.assertEqual(parts, [(0, 0), (1, 1)])

    def test_a_new_list_each_time(self):
        answer = bar_for(CROSSED)
        before = list(answer)
        answer.clear()
        self.assertEqual(bar_for(CROSSED), before)

    def test_a_list_that_is_changed_later_is_not_kept(self):
        several = list(BAD)
        self.assertIsNone(numbers_for(several))
        several.pop()
        several.append((LINE, 1))
        self.assertEqual(numbers_for(several), (0, 1, 2))


if __name__ == "__main__":
    unittest.main()
