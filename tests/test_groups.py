import random
import unittest

from noticed.errors import Barred, NoOrder
from noticed.groups import few_groups, few_lines, longest_line, widest
from tests import model, wrong

STEPS = (4, ((0, 2), (0, 3), (1, 3)))
ALL = (widest, longest_line, few_groups, few_lines)


def sampled(seed, counts):
    chance = random.Random(seed)
    for many, turns in counts:
        for turn in range(turns):
            yield model.random_unbarred(chance, many)


class Compared(unittest.TestCase):
    def compare(self, order):
        self.assertEqual(widest(order), model.least_of_the_most(order, model.is_group))
        self.assertEqual(longest_line(order), model.least_of_the_most(order, model.is_line))
        self.assertEqual(few_groups(order), model.least_of_the_fewest(order, model.is_group))
        self.assertEqual(few_lines(order), model.least_of_the_fewest(order, model.is_line))

    def test_all_of_few_things(self):
        for many in (1, 2, 3, 4):
            for order in model.unbarred(many):
                self.compare(order)

    def test_some_of_more_things(self):
        for order in sampled(51, ((5, 60), (6, 40), (7, 5), (8, 3))):
            self.compare(order)


class Widest(unittest.TestCase):
    def test_the_most_things(self):
        self.assertEqual(widest((4, ((0, 1), (0, 2), (0, 3)))), (1, 2, 3))
        self.assertEqual(widest((3, ((2, 1),))), (0, 1))

    def test_all_are_beside_one_another(self):
        # 0 is beside 1 and 1 beside 2, but 0 is not beside 2
        self.assertEqual(widest((3, ((0, 2),))), (0, 1))

    def test_the_least_of_several(self):
        self.assertEqual(widest(STEPS), (0, 1))
        self.assertEqual(widest((4, ((2, 0), (2, 1), (3, 0), (3, 1)))), (0, 1))
        self.assertEqual(widest((4, ((0, 1), (0, 2), (3, 1), (3, 2)))), (0, 3))

    def test_one_thing_and_all_things(self):
        self.assertEqual(widest((1, ())), (0,))
        self.assertEqual(widest((8, ())), (0, 1, 2, 3, 4, 5, 6, 7))
        self.assertEqual(widest(model.chain(8)), (0,))


class LongestLine(unittest.TestCase):
    def test_the_most_things(self):
        self.assertEqual(longest_line((3, ((1, 0), (2, 0), (2, 1)))), (2, 1, 0))
        self.assertEqual(longest_line((4, ((3, 0), (3, 1), (3, 2)))), (3, 0))

    def test_the_least_of_several(self):
        self.assertEqual(longest_line(STEPS), (0, 2))
        self.assertEqual(longest_line((4, ((2, 0), (2, 1), (3, 0), (3, 1)))), (2, 0))
        self.assertEqual(longest_line((3, ((1, 0), (2, 0)))), (1, 0))

    def test_one_thing_and_all_things(self):
        self.assertEqual(longest_line((1, ())), (0,))
        self.assertEqual(longest_line((8, ())), (0,))
        self.assertEqual(longest_line(model.chain(8)), (0, 1, 2, 3, 4, 5, 6, 7))


class FewGroups(unittest.TestCase):
    def test_as_few_as_can_be(self):
        self.assertEqual(few_groups((4, ((0, 2), (0, 3), (1, 2), (1, 3)))), [(0, 1), (2, 3)])

    def test_the_least_of_several(self):
        # [(0, 1), (2,)] would do as well
        self.assertEqual(few_groups((3, ((0, 2),))), [(0,), (1, 2)])
        self.assertEqual(few_groups((3, ((2, 1),))), [(0, 1), (2,)])
        self.assertEqual(few_groups(STEPS), [(0, 1), (2, 3)])
        self.assertEqual(few_groups((3, ((1, 2),))), [(0, 1), (2,)])

    def test_the_widest_need_not_be_among_them(self):
        order = model.order_of((0, 2, 3, 4, 6), 3)
        self.assertEqual(widest(order), (1, 2, 3))
        self.assertEqual(few_groups(order), [(0,), (1, 2), (3, 4)])

    def test_one_thing_and_all_things(self):
        self.assertEqual(few_groups((1, ())), [(0,)])
        self.assertEqual(few_groups((8, ())), [(0, 1, 2, 3, 4, 5, 6, 7)])
        self.assertEqual(few_groups(model.chain(8)), [(0,), (1,), (2,), (3,), (4,), (5,), (6,), (7,)])


class FewLines(unittest.TestCase):
    def test_as_few_as_can_be(self):
        self.assertEqual(few_lines((2, ((1, 0),))), [(1, 0)])
        # (0, 3) is as long as (0, 2), but would leave two things beside one another
        self.assertEqual(few_lines(STEPS), [(0, 2), (1, 3)])

    def test_the_least_of_several(self):
        self.assertEqual(few_lines((4, ((0, 2), (0, 3), (1, 2), (1, 3)))), [(0, 2), (1, 3)])
        self.assertEqual(few_lines((3, ((0, 1), (0, 2)))), [(0, 1), (2,)])
        self.assertEqual(few_lines((3, ((1, 0), (2, 0)))), [(1,), (2, 0)])

    def test_a_list_is_rising_though_its_lines_are_not(self):
        self.assertEqual(few_lines((4, ((2, 0), (2, 1), (3, 0), (3, 1)))), [(2, 0), (3, 1)])

    def test_one_thing_and_all_things(self):
        self.assertEqual(few_lines((1, ())), [(0,)])
        self.assertEqual(few_lines((8, ())), [(0,), (1,), (2,), (3,), (4,), (5,), (6,), (7,)])
        self.assertEqual(few_lines(model.chain(8)), [(0, 1, 2, 3, 4, 5, 6, 7)])


class Told(unittest.TestCase):
    def test_new_lists_each_time(self):
        for few in (few_groups, few_lines):
            answer = few(STEPS)
            again = list(answer)
            answer.clear()
            self.assertEqual(few(STEPS), again)

    def test_barred(self):
        for tell in ALL:
            for order in model.BARRED:
                with self.assertRaises(Barred):
                    tell(order)

    def test_no_order(self):
        for tell in ALL:
            for order in wrong.no_orders():
                with self.assertRaises(NoOrder):
                    tell(order)


if __name__ == "__main__":
    unittest.main()
