import itertools
import random
import unittest

from noticed.errors import Full, NoCount, NoOrder
from noticed.mending import how_far, nearest, unlike
from tests import model, wrong

BOTH = (2, ((0, 1), (1, 0)))
TWO_LINES = (4, ((0, 1), (2, 3)))


class Unlike(unittest.TestCase):
    def test_every_two_tellings_of_two_things(self):
        for one, other in itertools.product(model.all_relations(2), repeat=2):
            self.assertEqual(unlike(one, other), 0 if one == other else 1)

    def test_turned_about_is_one_pair_of_things(self):
        self.assertEqual(unlike((2, ((0, 1),)), (2, ((1, 0),))), 1)

    def test_told_both_ways(self):
        self.assertEqual(unlike(BOTH, (2, ())), 1)
        self.assertEqual(unlike(BOTH, (2, ((0, 1),))), 1)
        self.assertEqual(unlike(BOTH, (2, ((1, 0),))), 1)
        self.assertEqual(unlike(BOTH, BOTH), 0)

    def test_several_pairs(self):
        self.assertEqual(unlike(model.chain(4), TWO_LINES), 4)
        self.assertEqual(unlike((3, ((0, 1), (1, 2))), (3, ((0, 2), (1, 0), (1, 2)))), 2)

    def test_one_thing(self):
        self.assertEqual(unlike((1, ()), (1, ())), 0)

    def test_eight_things(self):
        everything = (8, tuple(itertools.permutations(range(8), 2)))
        self.assertEqual(unlike((8, ()), model.chain(8)), 28)
        self.assertEqual(unlike(everything, (8, ())), 28)
        self.assertEqual(unlike(everything, everything), 0)
        self.assertEqual(unlike((8, ((6, 7),)), (8, ())), 1)

    def test_all_of_three_things(self):
        for one, other in itertools.product(model.all_relations(3), repeat=2):
            self.assertEqual(unlike(one, other), model.far(one, other))

    def test_some_of_more_things(self):
        chance = random.Random(121)
        for many in (4, 5, 6, 7, 8):
            for turn in range(60):
                one, other = model.random_relation(chance, many), model.random_relation(chance, many)
                self.assertEqual(unlike(one, other), model.far(one, other))
                self.assertEqual(unlike(other, one), model.far(one, other))

    def test_no_order(self):
        for order in wrong.no_orders():
            with self.assertRaises(NoOrder):
                unlike(order, (2, ()))
            with self.assertRaises(NoOrder):
                unlike((2, ()), order)
            with self.assertRaises(NoOrder):
                unlike(order, order)

    def test_not_as_many_things(self):
        for one, other in itertools.permutations(range(1, 9), 2):
            with self.assertRaises(NoCount):
                unlike((one, ()), (other, ()))
        with self.assertRaises(NoCount):
            unlike(BOTH, TWO_LINES)

    def test_no_order_is_named_ahead_of_no_count(self):
        for one, other in (((2, ()), (3, ((1, 0), (0, 1)))), ((2, [(0, 1)]), (3, ())), ((8, ()), (9, ()))):
            with self.assertRaises(NoOrder):
                unlike(one, other)


class Nearest(unittest.TestCase):
    def test_what_nothing_bars_is_its_own_nearest(self):
        for many in (1, 2, 3, 4):
            for order in model.unbarred(many):
                self.assertEqual(nearest(order), order)
                self.assertEqual(how_far(order), 0)

    def test_told_both_ways(self):
        # three orders are as near
        self.assertEqual(nearest(BOTH), (2, ()))
        self.assertEqual(how_far(BOTH), 1)

    def test_the_least_of_several(self):
        self.assertEqual(nearest((3, ((0, 1), (1, 2), (2, 0)))), (3, ((0, 1), (0, 2), (1, 2))))
        self.assertEqual(nearest((3, ((0, 1), (1, 2)))), (3, ((0, 1),)))
        self.assertEqual(nearest(TWO_LINES), (4, ((0, 1),)))
        self.assertEqual(how_far(TWO_LINES), 1)

    def test_a_turned_pair_is_nearer_than_pairs_left_out(self):
        # 3 is below 0, though 0 is below 1 and 1 below 3
        order = (4, ((0, 1), (0, 2), (1, 2), (1, 3), (2, 3), (3, 0)))
        self.assertEqual(nearest(order), model.chain(4))
        self.assertEqual(how_far(order), 1)

    def test_everything_told_both_ways(self):
        for many in (1, 2, 3, 4):
            order = (many, tuple(itertools.permutations(range(many), 2)))
            self.assertEqual(nearest(order), (many, ()))
            self.assertEqual(how_far(order), many * (many - 1) // 2)

    def test_all_of_few_things(self):
        for many in (1, 2, 3):
            for order in model.all_relations(many):
                self.compare(order)

    def test_some_of_four_things(self):
        chance = random.Random(122)
        for turn in range(250):
            self.compare(model.random_relation(chance, 4))

    def compare(self, order):
        distance, orders = model.nearest_ones(order)
        self.assertEqual(how_far(order), distance)
        self.assertEqual(nearest(order), orders[0])

    def test_more_than_four_things(self):
        for tell in (nearest, how_far):
            for many in (5, 6, 7, 8):
                # also where nothing bars the order
                for order in ((many, ()), model.chain(many), (many, ((0, 1), (2, 3)))):
                    with self.assertRaises(Full):
                        tell(order)

    def test_no_order(self):
        for tell in (nearest, how_far):
            for order in wrong.no_orders() + [(5, [(0, 1)]), (5, ((1, 0), (0, 1))), (8, ((0, True),))]:
                with self.assertRaises(NoOrder):
                    tell(order)


if __name__ == "__main__":
    unittest.main()
