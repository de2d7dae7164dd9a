import itertools
import random
import unittest

from noticed.bars import bar
from noticed.errors import Barred, NoOrder, NoStep
from noticed.numbers import all_demands, is_round, least, least_step, least_values, numbers, round_of
from noticed.orders import fits, told
from tests import model, wrong

BETWEEN = (3, ((0, 2),))
BOTH = (2, ((0, 1), (1, 0)))
BARRED = [BOTH, (3, ((0, 1), (1, 2))), (4, ((0, 1), (2, 3))), (4, ((0, 1), (0, 2), (1, 2)))]


class Numbers(unittest.TestCase):
    def test_least_ones(self):
        self.assertEqual(numbers((2, ((0, 1),)), 5), (0, 5))
        self.assertEqual(numbers((2, ((1, 0),)), 5), (5, 0))
        self.assertEqual(numbers(BETWEEN, 2), (0, 1, 2))
        self.assertEqual(numbers(BETWEEN, 10), (0, 1, 10))
        self.assertEqual(numbers((4, ((0, 2), (0, 3), (1, 3))), 7), (0, 1, 7, 8))

    def test_none(self):
        self.assertIsNone(numbers(BETWEEN, 1))
        for order in BARRED:
            for step in (1, 2, 3, 7, 998, 999):
                self.assertIsNone(numbers(order, step))

    def test_one_thing(self):
        self.assertEqual(numbers((1, ()), 1), (0,))
        self.assertEqual(numbers((1, ()), 999), (0,))

    def test_no_pairs(self):
        for step in (1, 2, 999):
            self.assertEqual(numbers((8, ()), step), (0,) * 8)

    def test_eight_things(self):
        self.assertEqual(numbers(model.chain(8), 1), (0, 1, 2, 3, 4, 5, 6, 7))
        self.assertEqual(numbers(model.chain(8), 999), (0, 999, 1998, 2997, 3996, 4995, 5994, 6993))

    def test_nothing_holds_them_down_to_9999(self):
        # eight things come no higher than 7 * 999; past that only the inner search can be asked
        demands = all_demands(model.chain(8), 2000)
        self.assertEqual(least_values(8, demands), (0, 2000, 4000, 6000, 8000, 10000, 12000, 14000))

    def test_all_of_few_things(self):
        for many, steps in ((1, (1, 2)), (2, (1, 2, 3)), (3, (1, 2, 3, 4)), (4, (1, 2, 3))):
            for step in steps:
                least_ones = model.least_by_trying(many, step)
                for order in model.all_relations(many):
                    self.assertEqual(numbers(order, step), least_ones.get(order))

    def test_some_of_eight_things(self):
        chance = random.Random(1)
        for turn in range(150):
            step = chance.randint(1, 9)
            order = model.order_of(tuple(chance.randint(0, 20) for thing in range(8)), step)
            for other in (1, 2, 3, step, 999):
                found = numbers(order, other)
                self.assertEqual(found, model.least_by_ways(order, other))
                self.assertTrue(found is None or fits(order, other, found))
            self.assertIsNotNone(numbers(order, step))

    def test_never_more_than_what_told_the_order(self):
        chance = random.Random(2)
        for turn in range(150):
            step = chance.choice((1, 2, 50, 998, 999))
            values = tuple(chance.randint(0, 9999) for thing in range(chance.randint(1, 8)))
            found = numbers(told(step, values), step)
            self.assertTrue(all(few <= many for few, many in zip(found, values)))

    def test_no_order(self):
        for order in wrong.no_orders():
            with self.assertRaises(NoOrder):
                numbers(order, 1)
            with self.assertRaises(NoOrder):
                numbers(order, None)

    def test_no_step(self):
        for step in wrong.no_steps():
            with self.assertRaises(NoStep):
                numbers(BETWEEN, step)
            with self.assertRaises(NoStep):
                numbers(BOTH, step)


class RoundOf(unittest.TestCase):
    def test_a_round_just_where_there_are_no_numbers(self):
        for many, steps in ((1, (1, 2)), (2, (1, 2)), (3, (1, 2, 3)), (4, (1, 2, 3, 999))):
            for order in model.all_relations(many):
                for step in steps:
                    self.check(order, step)

    def test_some_of_eight_things(self):
        chance = random.Random(6)
        for turn in range(200):
            values = tuple(chance.randint(0, 20) for thing in range(8))
            orders = (model.random_relation(chance, 8), model.order_of(values, chance.randint(2, 9)))
            for order in orders:
                for step in (1, 2, 3, 4, 5, 999):
                    self.check(order, step)

    def test_not_only_from_what_is_raised_last(self):
        # the round of 0 and 1 raises things that are not in it
        order = (5, ((0, 1), (1, 0), (1, 2), (2, 3), (3, 4)))
        self.check(order, 1)
        self.check(order, 5)

    def check(self, order, step):
        found = round_of(order, step)
        self.assertEqual(found is None, numbers(order, step) is not None)
        self.assertEqual(found is None, model.least_by_ways(order, step) is not None)
        if found is not None:
            self.assertIs(found.__class__, list)
            self.assertTrue(2 <= len(found) <= 8)
            self.assertEqual(len(set(found)), len(found))
            self.assertTrue(set(found) <= set(range(order[0])))
            self.assertTrue(model.holds_round(order, step, found))
            self.assertIs(is_round(order, step, found), True)

    def test_two_things(self):
        for step in (1, 2, 999):
            self.assertEqual(sorted(round_of(BOTH, step)), [0, 1])

    def test_none(self):
        for step in (1, 999):
            self.assertIsNone(round_of((1, ()), step))
            self.assertIsNone(round_of((8, ()), step))
            self.assertIsNone(round_of(model.chain(8), step))
        self.assertIsNone(round_of(BETWEEN, 2))

    def test_a_new_list_each_time(self):
        first = round_of(BETWEEN, 1)
        kept = list(first)
        first.clear()
        self.assertEqual(round_of(BETWEEN, 1), kept)

    def test_no_order(self):
        for order in wrong.no_orders():
            with self.assertRaises(NoOrder):
                round_of(order, 1)
            with self.assertRaises(NoOrder):
                round_of(order, 0)

    def test_no_step(self):
        for step in wrong.no_steps():
            with self.assertRaises(NoStep):
                round_of(BOTH, step)


class IsRound(unittest.TestCase):
    def test_one_and_the_next_one(self):
        self.assertIs(is_round(BETWEEN, 1, [0, 2, 1]), True)
        self.assertIs(is_round(BETWEEN, 1, [2, 1, 0]), True)
        self.assertIs(is_round(BETWEEN, 1, [1, 0, 2]), True)

    def test_the_wrong_way_about(self):
        self.assertIs(is_round(BETWEEN, 1, [0, 1, 2]), False)
        self.assertIs(is_round(BETWEEN, 1, [2, 0]), False)

    def test_what_comes_to_just_0_is_none(self):
        self.assertIs(is_round(BETWEEN, 2, [0, 2, 1]), False)
        self.assertIs(is_round((2, ()), 1, [0, 1]), False)
        self.assertIs(is_round((8, ()), 1, [0, 1, 2, 3, 4, 5, 6, 7]), False)

    def test_what_comes_to_just_1_is_one(self):
        two = (4, ((0, 1), (2, 3)))
        for step in (1, 2, 999):
            self.assertIs(is_round(two, step, [0, 1, 2, 3]), True)

    def test_whatever_is_told_the_other_way_about(self):
        for step in (1, 2, 999):
            self.assertIs(is_round(BOTH, step, [0, 1]), True)
            self.assertIs(is_round(BOTH, step, [1, 0]), True)

    def test_eight_things(self):
        order = (8, tuple(sorted((thing, (thing + 1) % 8) for thing in range(8))))
        self.assertIs(is_round(order, 999, [0, 1, 2, 3, 4, 5, 6, 7]), True)
        self.assertIs(is_round(order, 999, [7, 6, 5, 4, 3, 2, 1, 0]), False)

    def test_all_of_few_things(self):
        for many in (1, 2, 3):
            for order in model.all_relations(many):
                for step in (1, 2, 3):
                    found = model.rounds(order, step)
                    self.assertEqual(bool(found), numbers(order, step) is None)
                    for length in range(many + 2):
                        for things in itertools.product(range(many), repeat=length):
                            self.assertIs(is_round(order, step, list(things)), list(things) in found)

    def test_some_of_five_things(self):
        chance = random.Random(8)
        for turn in range(40):
            order = model.random_relation(chance, 5)
            for step in (1, 2, 3):
                found = model.rounds(order, step)
                for length in range(6):
                    for things in itertools.permutations(range(5), length):
                        self.assertIs(is_round(order, step, list(things)), list(things) in found)

    def test_a_thing_twice(self):
        self.assertIs(is_round(BOTH, 1, [0, 1, 0, 1]), False)
        self.assertIs(is_round(BOTH, 1, [0, 0]), False)
        self.assertIs(is_round(BETWEEN, 1, [0, 2, 1, 0, 2, 1]), False)

    def test_too_few_things(self):
        self.assertIs(is_round(BOTH, 1, []), False)
        self.assertIs(is_round(BOTH, 1, [0]), False)

    def test_things_of_any_kind(self):
        for thing in wrong.no_whole_numbers() + [0, 5, (0, 1), {0: 1, 1: 0}, "01", {0, 1}, range(2), iter([0, 1])]:
            self.assertIs(is_round(BOTH, 1, thing), False)
        for part in wrong.no_things(2):
            self.assertIs(is_round(BOTH, 1, [0, part]), False)
            self.assertIs(is_round(BOTH, 1, [part, 1]), False)
            self.assertIs(is_round(BOTH, 1, [0, 1, part]), False)

    def test_true_and_false_are_no_things(self):
        self.assertIs(is_round(BOTH, 1, [False, True]), False)
        self.assertIs(is_round(BOTH, 1, [0, True]), False)
        self.assertIs(is_round(BOTH, 1, [False, 1]), False)

    def test_what_is_handed_in_stays(self):
        things = [2, 1, 0]
        is_round(BETWEEN, 1, things)
        self.assertEqual(things, [2, 1, 0])

    def test_no_order(self):
        for order in wrong.no_orders():
            with self.assertRaises(NoOrder):
                is_round(order, 1, [0, 1])
            with self.assertRaises(NoOrder):
                is_round(order, 0, None)

    def test_no_step(self):
        for step in wrong.no_steps():
            with self.assertRaises(NoStep):
                is_round(BOTH, step, [0, 1])
            with self.assertRaises(NoStep):
                is_round(BOTH, step, None)


class Least(unittest.TestCase):
    def test_threshold_and_numbers(self):
        self.assertEqual(least(BETWEEN), (2, (0, 1, 2)))
        self.assertEqual(least_step(BETWEEN), 2)
        self.assertEqual(least((4, ((0, 2), (0, 3), (1, 3)))), (2, (0, 1, 2, 3)))

    def test_threshold_1(self):
        self.assertEqual(least((1, ())), (1, (0,)))
        self.assertEqual(least((8, ())), (1, (0,) * 8))
        self.assertEqual(least(model.chain(8)), (1, (0, 1, 2, 3, 4, 5, 6, 7)))
        self.assertEqual(least_step(model.chain(8)), 1)

    def test_all_of_few_things(self):
        for many in (1, 2, 3, 4):
            answers = {}
            for step in (1, 2, 3):
                for order, values in model.least_by_trying(many, step).items():
                    answers.setdefault(order, (step, values))
            for order in model.all_relations(many):
                if order in answers:
                    self.assertEqual(least(order), answers[order])
                    self.assertEqual(least_step(order), answers[order][0])
                else:
                    self.refused(order)

    def test_some_of_eight_things(self):
        chance = random.Random(9)
        greatest = 0
        for turn in range(150):
            order = model.order_of(tuple(chance.randint(0, 24) for thing in range(8)), chance.randint(5, 12))
            step = 1
            while model.least_by_ways(order, step) is None:
                step += 1
            self.assertEqual(least(order), (step, model.least_by_ways(order, step)))
            self.assertEqual(least_step(order), step)
            greatest = max(greatest, step)
        self.assertGreater(greatest, 3)

    def test_just_what_is_barred_is_refused(self):
        chance = random.Random(10)
        for turn in range(200):
            order = model.random_relation(chance, 8)
            if bar(order) is None:
                self.assertTrue(fits(order, least(order)[0], least(order)[1]))
            else:
                self.refused(order)

    def refused(self, order):
        with self.assertRaises(Barred):
            least(order)
        with self.assertRaises(Barred):
            least_step(order)

    def test_barred(self):
        for order in BARRED:
            self.refused(order)

    def test_no_order_is_named_first(self):
        for order in wrong.no_orders():
            with self.assertRaises(NoOrder):
                least(order)
            with self.assertRaises(NoOrder):
                least_step(order)


if __name__ == "__main__":
    unittest.main()
