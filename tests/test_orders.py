import itertools
import random
import unittest

from noticed.errors import NoNumbers, NoOrder, NoStep, NoThing
from noticed.orders import beside, fits, parted, told
from tests import model, wrong

ORDER = (4, ((0, 2), (0, 3), (1, 3)))


class Told(unittest.TestCase):
    def test_by_the_threshold_or_more(self):
        self.assertEqual(told(5, (0, 4, 5, 6)), (4, ((0, 2), (0, 3))))

    def test_things_in_any_sequence(self):
        self.assertEqual(told(2, (4, 0, 2)), (3, ((1, 0), (1, 2), (2, 0))))

    def test_pairs_are_rising(self):
        self.assertEqual(told(1, (3, 2, 1, 0)), (4, ((1, 0), (2, 0), (2, 1), (3, 0), (3, 1), (3, 2))))

    def test_one_thing(self):
        self.assertEqual(told(1, (0,)), (1, ()))
        self.assertEqual(told(999, (9999,)), (1, ()))

    def test_eight_things(self):
        self.assertEqual(told(1, (0, 1, 2, 3, 4, 5, 6, 7)), model.chain(8))
        self.assertEqual(told(1, (7,) * 8), (8, ()))

    def test_least_and_greatest_threshold(self):
        self.assertEqual(told(1, (0, 1)), (2, ((0, 1),)))
        self.assertEqual(told(999, (0, 998)), (2, ()))
        self.assertEqual(told(999, (0, 999)), (2, ((0, 1),)))

    def test_least_and_greatest_number(self):
        self.assertEqual(told(999, (9999, 0)), (2, ((1, 0),)))
        self.assertEqual(told(999, (9999, 9001)), (2, ()))

    def test_against_the_model(self):
        for step in (1, 2, 3):
            for values in itertools.product(range(6), repeat=3):
                self.assertEqual(told(step, values), model.order_of(values, step))

    def test_no_step(self):
        for step in wrong.no_steps():
            with self.assertRaises(NoStep):
                told(step, (0, 1))

    def test_no_numbers(self):
        for many in (1, 3):
            for numbers in wrong.no_numbers(many):
                with self.assertRaises(NoNumbers):
                    told(1, numbers)

    def test_too_few_and_too_many_numbers(self):
        for numbers in ((), (0,) * 9, (0,) * 20):
            with self.assertRaises(NoNumbers):
                told(1, numbers)

    def test_no_step_is_named_first(self):
        for step in wrong.no_steps():
            with self.assertRaises(NoStep):
                told(step, None)


class Fits(unittest.TestCase):
    def test_they_tell_it(self):
        self.assertIs(fits(ORDER, 2, (0, 1, 2, 3)), True)
        self.assertIs(fits(ORDER, 999, (9000, 9998, 9999, 9999)), False)
        self.assertIs(fits(ORDER, 998, (8000, 8500, 9000, 9600)), True)

    def test_one_pair_too_many_or_too_few(self):
        self.assertIs(fits((2, ()), 3, (0, 3)), False)
        self.assertIs(fits((2, ()), 3, (0, 2)), True)
        self.assertIs(fits((2, ((0, 1),)), 3, (0, 2)), False)
        self.assertIs(fits((2, ((0, 1),)), 3, (0, 3)), True)
        self.assertIs(fits((2, ((0, 1),)), 3, (3, 0)), False)

    def test_one_and_eight_things(self):
        self.assertIs(fits((1, ()), 1, (5,)), True)
        self.assertIs(fits(model.chain(8), 999, tuple(range(0, 8 * 999, 999))), True)
        self.assertIs(fits(model.chain(8), 999, tuple(range(0, 8 * 998, 998))), False)

    def test_nothing_fits_what_is_barred(self):
        order = (2, ((0, 1), (1, 0)))
        for numbers in itertools.product(range(5), repeat=2):
            self.assertIs(fits(order, 1, numbers), False)

    def test_against_the_model(self):
        for order in model.all_relations(3):
            for numbers in itertools.product(range(4), repeat=3):
                self.assertIs(fits(order, 2, numbers), model.order_of(numbers, 2) == order)

    def test_no_order(self):
        for order in wrong.no_orders():
            with self.assertRaises(NoOrder):
                fits(order, 1, (0, 0))

    def test_no_step(self):
        for step in wrong.no_steps():
            with self.assertRaises(NoStep):
                fits((2, ()), step, (0, 0))

    def test_no_numbers(self):
        for many in (1, 3):
            for numbers in wrong.no_numbers(many):
                with self.assertRaises(NoNumbers):
                    fits((many, ()), 1, numbers)

    def test_not_as_many_numbers_as_things(self):
        for numbers in ((), (0,), (0, 0, 0), (0,) * 8):
            with self.assertRaises(NoNumbers):
                fits((2, ()), 1, numbers)
        with self.assertRaises(NoNumbers):
            fits((8, ()), 1, (0,) * 9)

    def test_which_is_named_first(self):
        with self.assertRaises(NoOrder):
            fits((2, ((0, 0),)), 0, None)
        with self.assertRaises(NoOrder):
            fits((0, ()), 1, ())
        with self.assertRaises(NoStep):
            fits((2, ()), True, None)
        with self.assertRaises(NoStep):
            fits((2, ()), 1000, (0,))


class Beside(unittest.TestCase):
    def test_neither_is_less(self):
        self.assertEqual(beside(ORDER, 0), [0, 1])
        self.assertEqual(beside(ORDER, 1), [0, 1, 2])
        self.assertEqual(beside(ORDER, 2), [1, 2, 3])
        self.assertEqual(beside(ORDER, 3), [2, 3])

    def test_one_thing_is_beside_itself(self):
        self.assertEqual(beside((1, ()), 0), [0])

    def test_eight_things(self):
        self.assertEqual(beside((8, ()), 7), [0, 1, 2, 3, 4, 5, 6, 7])
        self.assertEqual(beside(model.chain(8), 3), [3])

    def test_both_are_less(self):
        self.assertEqual(beside((2, ((0, 1), (1, 0))), 1), [1])

    def test_a_new_list_each_time(self):
        answer = beside(ORDER, 0)
        answer.append(9)
        self.assertEqual(beside(ORDER, 0), [0, 1])

    def test_no_order(self):
        for order in wrong.no_orders():
            with self.assertRaises(NoOrder):
                beside(order, 0)

    def test_no_thing(self):
        for many in (1, 4, 8):
            for thing in wrong.no_things(many):
                with self.assertRaises(NoThing):
                    beside((many, ()), thing)

    def test_no_order_is_named_first(self):
        for order in wrong.no_orders():
            with self.assertRaises(NoOrder):
                beside(order, None)


class Parted(unittest.TestCase):
    def test_less_than_just_one(self):
        self.assertEqual(parted((3, ((0, 2),)), 1, 2), 0)

    def test_just_one_is_less(self):
        self.assertEqual(parted((3, ((1, 0),)), 1, 2), 0)

    def test_the_least_one(self):
        self.assertEqual(parted((4, ((0, 2), (0, 3), (1, 3))), 2, 3), 1)
        self.assertEqual(parted((4, ((2, 0), (3, 0), (3, 1))), 3, 2), 1)

    def test_one_of_both_may_part_them(self):
        self.assertEqual(parted((2, ((0, 1),)), 0, 1), 0)
        self.assertEqual(parted((2, ((0, 1),)), 1, 0), 0)
        self.assertEqual(parted((2, ((0, 1), (1, 0))), 0, 1), 0)

    def test_none(self):
        self.assertIsNone(parted((1, ()), 0, 0))
        self.assertIsNone(parted((8, ()), 3, 7))
        self.assertIsNone(parted((3, ((0, 1), (0, 2))), 1, 2))
        self.assertIsNone(parted((3, ((1, 0), (2, 0))), 1, 2))

    def test_a_thing_and_itself(self):
        for thing in range(8):
            self.assertIsNone(parted(model.chain(8), thing, thing))

    def test_against_the_model(self):
        for order in model.all_relations(3):
            less = set(order[1])
            for one, other in itertools.product(range(3), repeat=2):
                parting = [
                    thing for thing in range(3)
                    if len({(thing, one), (thing, other)} & less) == 1 and one != other
                    or len({(one, thing), (other, thing)} & less) == 1 and one != other
                ]
                self.assertEqual(parted(order, one, other), min(parting, default=None))

    def test_no_order(self):
        for order in wrong.no_orders():
            with self.assertRaises(NoOrder):
                parted(order, 0, 0)

    def test_no_thing_of_either(self):
        for many in (1, 8):
            for thing in wrong.no_things(many):
                with self.assertRaises(NoThing):
                    parted((many, ()), thing, 0)
                with self.assertRaises(NoThing):
                    parted((many, ()), 0, thing)
                with self.assertRaises(NoThing):
                    parted((many, ()), thing, thing)

    def test_no_order_is_named_first(self):
        for order in wrong.no_orders():
            with self.assertRaises(NoOrder):
                parted(order, None, True)


class WhatIsAnOrder(unittest.TestCase):
    def test_every_one_is_taken(self):
        for many in (1, 2, 3):
            for order in model.all_relations(many):
                self.assertIn(0, beside(order, 0))

    def test_all_pairs_of_eight_things(self):
        order = (8, tuple(itertools.permutations(range(8), 2)))
        self.assertEqual(beside(order, 5), [5])

    def test_some_of_eight_things(self):
        chance = random.Random(11)
        for turn in range(100):
            order = model.random_relation(chance, 8)
            for one in range(8):
                found = [two for two in range(8) if not {(one, two), (two, one)} & set(order[1])]
                self.assertEqual(beside(order, one), found)


if __name__ == "__main__":
    unittest.main()
