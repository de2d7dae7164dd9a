import itertools
import random
import unittest

from noticed.changing import joined, laid, renamed, turned, without
from noticed.errors import Full, NoCount, NoNames, NoOrder, NoThing
from noticed.orders import beside
from tests import model, wrong

STEPS = (4, ((0, 2), (0, 3), (1, 3)))
BOTH = (2, ((0, 1), (1, 0)))
# one order for each count of things
SAMPLES = [(1, ()), (2, ((1, 0),)), (3, ((0, 2),)), STEPS, (5, ((0, 1), (3, 2))), (6, ()), model.chain(7),
           model.chain(8)]


class Turned(unittest.TestCase):
    def test_each_pair_is_turned_about(self):
        self.assertEqual(turned((2, ((0, 1),))), (2, ((1, 0),)))
        self.assertEqual(turned(STEPS), (4, ((2, 0), (3, 0), (3, 1))))

    def test_pairs_are_rising(self):
        self.assertEqual(turned((3, ((0, 2), (1, 0), (1, 2)))), (3, ((0, 1), (2, 0), (2, 1))))

    def test_one_thing_and_no_pairs(self):
        self.assertEqual(turned((1, ())), (1, ()))
        self.assertEqual(turned((8, ())), (8, ()))

    def test_eight_things(self):
        self.assertEqual(turned(model.chain(8)), (8, tuple(pair for pair in itertools.permutations(range(8), 2)
                                                           if pair[0] > pair[1])))

    def test_what_is_barred_is_turned_too(self):
        self.assertEqual(turned(BOTH), BOTH)
        self.assertEqual(turned((3, ((0, 1), (1, 2)))), (3, ((1, 0), (2, 1))))

    def test_all_of_few_things(self):
        for many in (1, 2, 3):
            for order in model.all_relations(many):
                pairs = sorted((other, one) for one, other in order[1])
                self.assertEqual(turned(order), (many, tuple(pairs)))
                self.assertEqual(turned(turned(order)), order)

    def test_no_order(self):
        for order in wrong.no_orders():
            with self.assertRaises(NoOrder):
                turned(order)


class Renamed(unittest.TestCase):
    def test_thing_k_is_called_by_the_one_at_place_k(self):
        # the other way about this would be (3, ((2, 0),))
        self.assertEqual(renamed((3, ((0, 1),)), (1, 2, 0)), (3, ((1, 2),)))
        self.assertEqual(renamed((3, ((0, 1),)), (2, 0, 1)), (3, ((2, 0),)))

    def test_names_that_turn_about(self):
        self.assertEqual(renamed((2, ((0, 1),)), (1, 0)), (2, ((1, 0),)))
        self.assertEqual(renamed(STEPS, (3, 2, 1, 0)), (4, ((2, 0), (3, 0), (3, 1))))
        self.assertEqual(renamed(BOTH, (1, 0)), BOTH)

    def test_the_same_names(self):
        for order in SAMPLES:
            self.assertEqual(renamed(order, tuple(range(order[0]))), order)

    def test_one_thing(self):
        self.assertEqual(renamed((1, ()), (0,)), (1, ()))

    def test_eight_things(self):
        self.assertEqual(renamed((8, ((0, 7), (6, 7))), (7, 1, 2, 3, 4, 5, 6, 0)), (8, ((6, 0), (7, 0))))
        self.assertEqual(renamed((8, ()), (1, 2, 3, 4, 5, 6, 7, 0)), (8, ()))

    def test_all_of_few_things(self):
        for many in (1, 2, 3):
            for order in model.all_relations(many):
                for names in itertools.permutations(range(many)):
                    pairs = sorted((names[one], names[other]) for one, other in order[1])
                    self.assertEqual(renamed(order, names), (many, tuple(pairs)))

    def test_no_order(self):
        for order in wrong.no_orders():
            with self.assertRaises(NoOrder):
                renamed(order, (0, 1))

    def test_no_names(self):
        for order in (SAMPLES[0], SAMPLES[1], SAMPLES[2], SAMPLES[7]):
            for names in wrong.no_names(order[0]):
                with self.assertRaises(NoNames):
                    renamed(order, names)

    def test_true_and_false_are_no_names(self):
        for names in ((False,), (False, 1), (0, True), (True, False), (1, False)):
            with self.assertRaises(NoNames):
                renamed(SAMPLES[len(names) - 1], names)

    def test_no_order_is_named_first(self):
        for order in wrong.no_orders():
            with self.assertRaises(NoOrder):
                renamed(order, None)


class Without(unittest.TestCase):
    def test_the_others_are_numbered_anew(self):
        self.assertEqual(without(STEPS, 0), (3, ((0, 2),)))
        self.assertEqual(without(STEPS, 1), (3, ((0, 1), (0, 2))))
        self.assertEqual(without(STEPS, 2), (3, ((0, 2), (1, 2))))
        self.assertEqual(without(STEPS, 3), (3, ((0, 2),)))

    def test_one_of_two(self):
        for order in model.all_relations(2):
            self.assertEqual(without(order, 0), (1, ()))
            self.assertEqual(without(order, 1), (1, ()))

    def test_one_of_eight(self):
        for thing in range(8):
            self.assertEqual(without(model.chain(8), thing), model.chain(7))
            self.assertEqual(without((8, ()), thing), (7, ()))
        self.assertEqual(without((8, ((3, 7), (7, 3))), 5), (7, ((3, 6), (6, 3))))

    def test_against_the_model(self):
        chance = random.Random(31)
        for turn in range(100):
            order = model.random_relation(chance, chance.randint(2, 8))
            for thing in range(order[0]):
                others = [other for other in range(order[0]) if other != thing]
                pairs = [(others.index(one), others.index(other)) for one, other in order[1]
                         if one in others and other in others]
                self.assertEqual(without(order, thing), (order[0] - 1, tuple(sorted(pairs))))

    def test_the_only_thing(self):
        with self.assertRaises(NoCount):
            without((1, ()), 0)

    def test_no_order(self):
        for order in wrong.no_orders():
            with self.assertRaises(NoOrder):
                without(order, 0)

    def test_no_thing(self):
        for order in SAMPLES:
            for thing in wrong.no_things(order[0]):
                # also of one thing, where NoCount is named later
                with self.assertRaises(NoThing):
                    without(order, thing)

    def test_no_order_is_named_first(self):
        for order in wrong.no_orders():
            with self.assertRaises(NoOrder):
                without(order, None)


class JoinedAndLaid(unittest.TestCase):
    def test_joined(self):
        self.assertEqual(joined((1, ()), (1, ())), (2, ((0, 1),)))
        self.assertEqual(joined((2, ((1, 0),)), (2, ((0, 1),))),
                         (4, ((0, 2), (0, 3), (1, 0), (1, 2), (1, 3), (2, 3))))
        self.assertEqual(joined((1, ()), (2, ())), (3, ((0, 1), (0, 2))))

    def test_laid(self):
        self.assertEqual(laid((1, ()), (1, ())), (2, ()))
        self.assertEqual(laid((2, ((1, 0),)), (2, ((0, 1),))), (4, ((1, 0), (2, 3))))
        self.assertEqual(laid((1, ()), (2, ((0, 1), (1, 0)))), (3, ((1, 2), (2, 1))))
        self.assertEqual(beside(laid((2, ((0, 1),)), (2, ((1, 0),))), 0), [0, 2, 3])

    def test_what_is_barred_is_put_together_too(self):
        self.assertEqual(joined(BOTH, (1, ())), (3, ((0, 1), (0, 2), (1, 0), (1, 2))))
        self.assertEqual(laid((3, ((0, 1), (1, 2))), BOTH), (5, ((0, 1), (1, 2), (3, 4), (4, 3))))

    def test_just_eight_things(self):
        for many in range(1, 8):
            self.assertEqual(joined(model.chain(many), model.chain(8 - many)), model.chain(8))
            self.assertEqual(laid((many, ()), (8 - many, ())), (8, ()))

    def test_nine_things_or_more(self):
        for one, other in itertools.product(SAMPLES, repeat=2):
            if one[0] + other[0] > 8:
                for put_together in (joined, laid):
                    with self.assertRaises(Full):
                        put_together(one, other)

    def test_of_few_things(self):
        few = [order for many in (1, 2, 3) for order in itertools.islice(model.all_relations(many), 0, None, many)]
        for one, other in itertools.product(few, repeat=2):
            many = one[0]
            pairs = set(one[1]) | {(less + many, more + many) for less, more in other[1]}
            across = set(itertools.product(range(many), range(many, many + other[0])))
            self.assertEqual(laid(one, other), (many + other[0], tuple(sorted(pairs))))
            self.assertEqual(joined(one, other), (many + other[0], tuple(sorted(pairs | across))))

    def test_no_order_of_either(self):
        for put_together in (joined, laid):
            for order in wrong.no_orders():
                with self.assertRaises(NoOrder):
                    put_together(order, (1, ()))
                with self.assertRaises(NoOrder):
                    put_together((1, ()), order)

    def test_no_order_is_named_first(self):
        for put_together in (joined, laid):
            for order in ((9, ()), (9, ((0, 1),)), (8, ((0, 0),)), (8, [])):
                with self.assertRaises(NoOrder):
                    put_together(order, model.chain(8))
                with self.assertRaises(NoOrder):
                    put_together(model.chain(8), order)


if __name__ == "__main__":
    unittest.main()
