import itertools
import random
import unittest

from noticed.errors import Barred, NoCount, NoOrder
from noticed.rows import all_orders, longest, row
from tests import model, wrong

STEPS = (4, ((0, 2), (0, 3), (1, 3)))


class Row(unittest.TestCase):
    def test_like_things_stand_in_one_list(self):
        self.assertEqual(row((4, ((0, 2), (0, 3), (1, 2), (1, 3)))), [[0, 1], [2, 3]])
        self.assertEqual(row((4, ((3, 0), (3, 1), (3, 2)))), [[3], [0, 1, 2]])
        self.assertEqual(row((5, ((1, 0), (1, 2), (1, 4), (3, 0), (3, 2), (3, 4)))), [[1, 3], [0, 2, 4]])

    def test_things_beside_one_another_may_be_unlike(self):
        self.assertEqual(row((3, ((0, 2),))), [[0], [1], [2]])
        self.assertEqual(row((3, ((2, 1),))), [[2], [0], [1]])
        self.assertEqual(row(STEPS), [[0], [1], [2], [3]])

    def test_ahead_by_what_is_more_alone(self):
        # 0 and 1 have nothing less than them
        self.assertEqual(row((4, ((0, 2), (0, 3), (1, 3)))), [[0], [1], [2], [3]])
        self.assertEqual(row((3, ((1, 2),))), [[1], [0], [2]])

    def test_ahead_by_what_is_less_alone(self):
        # 2 and 3 are less than nothing
        self.assertEqual(row((4, ((0, 2), (1, 2), (1, 3)))), [[1], [0], [3], [2]])

    def test_one_thing(self):
        self.assertEqual(row((1, ())), [[0]])

    def test_all_in_one_list(self):
        for many in range(1, 9):
            self.assertEqual(row((many, ())), [list(range(many))])

    def test_each_in_its_own(self):
        self.assertEqual(row(model.chain(8)), [[0], [1], [2], [3], [4], [5], [6], [7]])
        turned = (8, tuple(sorted((other, one) for one, other in model.chain(8)[1])))
        self.assertEqual(row(turned), [[7], [6], [5], [4], [3], [2], [1], [0]])

    def test_all_of_few_things(self):
        for many in (1, 2, 3, 4):
            for order in model.unbarred(many):
                self.compare(order)

    def test_some_of_more_things(self):
        chance = random.Random(21)
        for many in (5, 6, 7, 8):
            for turn in range(60):
                self.compare(model.random_unbarred(chance, many))

    def compare(self, order):
        found = row(order)
        self.assertEqual(sorted(itertools.chain(*found)), list(range(order[0])))
        for things in found:
            self.assertEqual(things, sorted(things))
            for one, other in itertools.combinations(things, 2):
                self.assertTrue(model.are_alike(order, one, other))
        for before, behind in itertools.combinations(found, 2):
            for one, other in itertools.product(before, behind):
                self.assertFalse(model.are_alike(order, one, other))
                self.assertTrue(model.is_ahead(order, one, other))
                self.assertFalse(model.is_ahead(order, other, one))

    def test_new_lists_each_time(self):
        answer = row((3, ((0, 1), (0, 2))))
        answer[1].append(9)
        answer.append([9])
        self.assertEqual(row((3, ((0, 1), (0, 2)))), [[0], [1, 2]])

    def test_barred(self):
        for order in model.BARRED:
            with self.assertRaises(Barred):
                row(order)

    def test_no_order(self):
        for order in wrong.no_orders():
            with self.assertRaises(NoOrder):
                row(order)


class Longest(unittest.TestCase):
    def test_each_less_than_the_next(self):
        self.assertEqual(longest((2, ((0, 1),))), 2)
        self.assertEqual(longest((2, ((1, 0),))), 2)
        self.assertEqual(longest(STEPS), 2)
        self.assertEqual(longest((5, ((0, 2), (0, 3), (0, 4), (1, 3), (1, 4), (2, 4)))), 3)

    def test_one_thing(self):
        self.assertEqual(longest((1, ())), 1)

    def test_no_pairs(self):
        self.assertEqual(longest((8, ())), 1)

    def test_all_eight_things(self):
        self.assertEqual(longest(model.chain(8)), 8)

    def test_all_of_few_things(self):
        for many in (1, 2, 3, 4):
            for order in model.unbarred(many):
                self.assertEqual(longest(order), len(model.least_of_the_most(order, model.is_line)))

    def test_some_of_more_things(self):
        chance = random.Random(22)
        for many in (5, 6):
            for turn in range(40):
                order = model.random_unbarred(chance, many)
                self.assertEqual(longest(order), len(model.least_of_the_most(order, model.is_line)))

    def test_barred(self):
        for order in model.BARRED:
            with self.assertRaises(Barred):
                longest(order)

    def test_no_order(self):
        for order in wrong.no_orders():
            with self.assertRaises(NoOrder):
                longest(order)


class AllOrders(unittest.TestCase):
    def test_of_one_thing(self):
        self.assertEqual(all_orders(1), [(1, ())])

    def test_of_two_things(self):
        self.assertEqual(all_orders(2), [(2, ()), (2, ((0, 1),)), (2, ((1, 0),))])

    def test_of_three_things(self):
        found = all_orders(3)
        self.assertEqual(len(found), 19)
        self.assertEqual(found[:4], [(3, ()), (3, ((0, 1),)), (3, ((0, 1), (0, 2))), (3, ((0, 1), (0, 2), (1, 2)))])
        self.assertEqual(found[-1], (3, ((2, 1),)))

    def test_against_the_model(self):
        for many in (1, 2, 3):
            self.assertEqual(all_orders(many), sorted(model.unbarred(many)))

    def test_a_new_list_each_time(self):
        answer = all_orders(2)
        answer.clear()
        self.assertEqual(len(all_orders(2)), 3)

    def test_no_count(self):
        for many in wrong.no_counts():
            with self.assertRaises(NoCount):
                all_orders(many)


if __name__ == "__main__":
    unittest.main()
