import itertools
import random
import unittest

from noticed.bars import bar, is_bar
from noticed.errors import NoOrder
from tests import model, wrong

TWO = (4, ((0, 1), (2, 3)))
THREE = (4, ((0, 1), (0, 2), (1, 2)))


class Bar(unittest.TestCase):
    def test_two(self):
        self.assertEqual(bar(TWO), ("two", 0, 1, 2, 3))

    def test_three(self):
        self.assertEqual(bar(THREE), ("three", 0, 1, 2, 3))

    def test_none(self):
        for order in ((1, ()), (8, ()), model.chain(8), (3, ((0, 2),)), (4, ((0, 2), (0, 3), (1, 3)))):
            self.assertIsNone(bar(order))

    def test_two_ahead_of_three(self):
        # as tuples those with "three" would be ahead
        order = (8, ((0, 1), (0, 2), (1, 2), (4, 5), (6, 7)))
        self.assertEqual(bar(order), ("two", 0, 1, 4, 5))

    def test_some_of_the_four_are_one(self):
        self.assertEqual(bar((2, ((0, 1), (1, 0)))), ("two", 0, 1, 1, 0))
        self.assertEqual(bar((3, ((0, 1), (1, 2)))), ("two", 0, 1, 1, 2))
        self.assertEqual(bar((3, ((0, 1), (1, 2), (2, 0)))), ("two", 0, 1, 1, 2))
        self.assertEqual(bar((3, ((1, 2), (2, 0)))), ("two", 1, 2, 2, 0))

    def test_the_last_things_of_eight(self):
        self.assertEqual(bar((8, ((4, 5), (6, 7)))), ("two", 4, 5, 6, 7))
        beneath = tuple(itertools.product(range(4), range(4, 8)))
        order = (8, tuple(sorted(beneath + ((4, 5), (4, 6), (5, 6)))))
        self.assertEqual(bar(order), ("three", 4, 5, 6, 7))

    def test_the_first_three(self):
        order = (5, ((0, 2), (0, 3), (1, 2), (1, 3), (2, 3)))
        self.assertEqual(bar(order), ("three", 0, 2, 3, 4))

    def test_all_of_few_things(self):
        free = {}
        for many in (1, 2, 3, 4):
            free[many] = 0
            for order in model.all_relations(many):
                found = model.bars(order)
                self.assertEqual(bar(order), found[0] if found else None)
                free[many] += not found
        self.assertEqual(free, {1: 1, 2: 3, 3: 19, 4: 183})

    def test_nothing_bars_what_numbers_tell(self):
        chance = random.Random(3)
        for turn in range(200):
            step = chance.randint(1, 6)
            values = tuple(chance.randint(0, 12) for thing in range(8))
            self.assertIsNone(bar(model.order_of(values, step)))

    def test_some_of_eight_things(self):
        chance = random.Random(4)
        for turn in range(15):
            order = model.random_relation(chance, 8)
            found = model.bars(order)
            self.assertEqual(bar(order), found[0] if found else None)

    def test_no_order(self):
        for order in wrong.no_orders():
            with self.assertRaises(NoOrder):
                bar(order)


class IsBar(unittest.TestCase):
    def test_two(self):
        self.assertIs(is_bar(TWO, ("two", 0, 1, 2, 3)), True)
        self.assertIs(is_bar(TWO, ("two", 2, 3, 0, 1)), True)
        self.assertIs(is_bar(TWO, ("two", 0, 1, 3, 2)), False)
        self.assertIs(is_bar(TWO, ("three", 0, 1, 2, 3)), False)

    def test_three(self):
        self.assertIs(is_bar(THREE, ("three", 0, 1, 2, 3)), True)
        self.assertIs(is_bar(THREE, ("three", 0, 1, 2, 0)), False)
        self.assertIs(is_bar(THREE, ("two", 0, 1, 2, 3)), False)

    def test_some_of_the_four_are_one(self):
        self.assertIs(is_bar((3, ((0, 1), (1, 2))), ("two", 0, 1, 1, 2)), True)
        self.assertIs(is_bar((3, ((0, 1), (1, 2))), ("three", 0, 1, 2, 0)), True)
        self.assertIs(is_bar((3, ((0, 1), (1, 2))), ("three", 0, 1, 2, 2)), True)
        self.assertIs(is_bar((2, ((0, 1), (1, 0))), ("three", 0, 1, 0, 0)), True)
        self.assertIs(is_bar((2, ((0, 1),)), ("two", 0, 1, 0, 1)), False)

    def test_all_of_few_things(self):
        for many in (1, 2, 3):
            for order in model.all_relations(many):
                self.compare(order)

    def test_some_of_five_things(self):
        chance = random.Random(5)
        for turn in range(10):
            self.compare(model.random_relation(chance, 5))

    def compare(self, order):
        found = set(model.bars(order))
        for word in ("two", "three"):
            for four in itertools.product(range(order[0]), repeat=4):
                thing = (word,) + four
                self.assertIs(is_bar(order, thing), thing in found)

    def test_things_of_any_kind(self):
        for thing in wrong.no_whole_numbers() + [0, 5, "two", ("two",), ("two", 0, 1, 2), ("two", 0, 1, 2, 3, 0)]:
            self.assertIs(is_bar(TWO, thing), False)
        self.assertIs(is_bar(TWO, ["two", 0, 1, 2, 3]), False)
        self.assertIs(is_bar(TWO, ("two", (0, 1), (2, 3))), False)

    def test_other_words(self):
        for word in wrong.no_whole_numbers() + ["Two", "two ", "", "one", 2, 3]:
            if word.__class__ is not str or word != "two":
                self.assertIs(is_bar(TWO, (word, 0, 1, 2, 3)), False)

    def test_other_things_in_each_place(self):
        for place in range(1, 5):
            for part in wrong.no_things(4):
                thing = ["two", 0, 1, 2, 3]
                thing[place] = part
                self.assertIs(is_bar(TWO, tuple(thing)), False)
                thing[0] = "three"
                self.assertIs(is_bar(THREE, tuple(thing)), False)

    def test_true_and_false_are_no_things(self):
        order = (2, ((0, 1), (1, 0)))
        self.assertIs(is_bar(order, ("two", 0, 1, 1, 0)), True)
        self.assertIs(is_bar(order, ("two", False, True, True, False)), False)
        self.assertIs(is_bar(order, ("two", 0, 1, 1, False)), False)
        self.assertIs(is_bar(order, ("two", 0, True, 1, 0)), False)

    def test_no_order(self):
        for order in wrong.no_orders():
            with self.assertRaises(NoOrder):
                is_bar(order, ("two", 0, 1, 2, 3))
            with self.assertRaises(NoOrder):
                is_bar(order, None)


if __name__ == "__main__":
    unittest.main()
