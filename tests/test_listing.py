import itertools
import random
import unittest

from noticed.errors import Barred, NoCount, NoOrder, NoRow, NoThing
from noticed.listing import chance, full_row, how_many, place_of
from tests import model, wrong

SOME = (3, ((0, 2),))
NO_NUMBERS = wrong.no_whole_numbers() + [-1, -2, 10 ** 30, -10 ** 30]


def factorial(many):
    return 1 if many == 0 else many * factorial(many - 1)


def samples(seed, counts, turns):
    chance_source = random.Random(seed)
    for many in counts:
        for turn in range(turns):
            yield model.random_unbarred(chance_source, many)


class HowMany(unittest.TestCase):
    def test_full_rows(self):
        self.assertEqual(how_many(SOME), 3)
        self.assertEqual(how_many((4, ((0, 2), (0, 3), (1, 3)))), 5)
        self.assertEqual(how_many((2, ((1, 0),))), 1)

    def test_one_alone(self):
        self.assertEqual(how_many((1, ())), 1)
        for many in range(1, 9):
            self.assertEqual(how_many(model.chain(many)), 1)

    def test_the_most(self):
        for many in range(1, 9):
            self.assertEqual(how_many((many, ())), factorial(many))
        self.assertEqual(how_many((8, ())), 40320)

    def test_against_the_model(self):
        for many in (1, 2, 3, 4):
            for order in model.unbarred(many):
                self.assertEqual(how_many(order), len(model.full_rows(order)))
        for order in samples(131, (5, 6), 30):
            self.assertEqual(how_many(order), len(model.full_rows(order)))
        for order in samples(132, (7, 8), 3):
            self.assertEqual(how_many(order), len(model.full_rows(order)))

    def test_barred(self):
        for order in model.BARRED:
            with self.assertRaises(Barred):
                how_many(order)

    def test_no_order(self):
        for order in wrong.no_orders():
            with self.assertRaises(NoOrder):
                how_many(order)


class FullRows(unittest.TestCase):
    def test_they_rise(self):
        self.assertEqual([full_row(SOME, number) for number in range(3)], [(0, 1, 2), (0, 2, 1), (1, 0, 2)])
        self.assertEqual([place_of(SOME, row) for row in ((0, 1, 2), (0, 2, 1), (1, 0, 2))], [0, 1, 2])

    def test_one_thing(self):
        self.assertEqual(full_row((1, ()), 0), (0,))
        self.assertEqual(place_of((1, ()), (0,)), 0)

    def test_one_alone(self):
        turned = (8, tuple(sorted((other, one) for one, other in model.chain(8)[1])))
        self.assertEqual(full_row(model.chain(8), 0), (0, 1, 2, 3, 4, 5, 6, 7))
        self.assertEqual(full_row(turned, 0), (7, 6, 5, 4, 3, 2, 1, 0))
        self.assertEqual(place_of(turned, (7, 6, 5, 4, 3, 2, 1, 0)), 0)

    def test_the_first_and_the_last_of_the_most(self):
        self.assertEqual(full_row((8, ()), 0), (0, 1, 2, 3, 4, 5, 6, 7))
        self.assertEqual(full_row((8, ()), 1), (0, 1, 2, 3, 4, 5, 7, 6))
        self.assertEqual(full_row((8, ()), 40318), (7, 6, 5, 4, 3, 2, 0, 1))
        self.assertEqual(full_row((8, ()), 40319), (7, 6, 5, 4, 3, 2, 1, 0))
        self.assertEqual(place_of((8, ()), (7, 6, 5, 4, 3, 2, 1, 0)), 40319)

    def test_each_number_leads_to_a_row_and_back(self):
        for many in (1, 2, 3, 4):
            for order in model.unbarred(many):
                self.compare_all(order)
        for order in samples(133, (5,), 15):
            self.compare_all(order)

    def compare_all(self, order):
        rows = model.full_rows(order)
        self.assertEqual([full_row(order, number) for number in range(len(rows))], rows)
        self.assertEqual([place_of(order, row) for row in rows], list(range(len(rows))))

    def test_some_of_eight_things(self):
        source = random.Random(134)
        for order in list(samples(135, (8,), 3)) + [(8, ())]:
            rows = model.full_rows(order)
            for number in {0, len(rows) - 1} | {source.randrange(len(rows)) for turn in range(20)}:
                self.assertEqual(full_row(order, number), rows[number])
                self.assertEqual(place_of(order, rows[number]), number)

    def test_just_beside_the_first_and_the_last(self):
        for order in [(1, ()), SOME, (8, ()), model.chain(8)] + list(samples(136, (4, 8), 10)):
            for number in (-1, how_many(order), how_many(order) + 1):
                with self.assertRaises(NoCount):
                    full_row(order, number)

    def test_no_count(self):
        for order in ((1, ()), SOME, (8, ())):
            for number in NO_NUMBERS:
                with self.assertRaises(NoCount):
                    full_row(order, number)

    def test_no_row(self):
        for order in ((2, ((0, 1),)), SOME, model.chain(8)):
            for row in wrong.no_rows(order):
                with self.assertRaises(NoRow):
                    place_of(order, row)
        for row in wrong.no_names(1):
            with self.assertRaises(NoRow):
                place_of((1, ()), row)

    def test_behind_one_than_which_it_is_less(self):
        for order in list(model.unbarred(4)) + [(4, ())]:
            rows = model.full_rows(order)
            for row in itertools.permutations(range(4)):
                if row not in rows:
                    with self.assertRaises(NoRow):
                        place_of(order, row)

    def test_barred_is_named_ahead(self):
        for order in model.BARRED:
            for number in (0, -1, True, "0"):
                with self.assertRaises(Barred):
                    full_row(order, number)
            for row in (tuple(range(order[0])), (), None, (True,)):
                with self.assertRaises(Barred):
                    place_of(order, row)

    def test_no_order_is_named_ahead(self):
        for order in wrong.no_orders():
            for number in (0, -1, None):
                with self.assertRaises(NoOrder):
                    full_row(order, number)
            for row in ((0, 1), None):
                with self.assertRaises(NoOrder):
                    place_of(order, row)


class Chance(unittest.TestCase):
    def test_parts_of_all_rows(self):
        self.assertEqual(chance(SOME, 0, 1), (2, 3))
        self.assertEqual(chance(SOME, 1, 0), (1, 3))
        self.assertEqual(chance(SOME, 1, 2), (2, 3))

    def test_of_which_one_is_less(self):
        self.assertEqual(chance(SOME, 0, 2), (1, 1))
        self.assertEqual(chance(SOME, 2, 0), (0, 1))
        self.assertEqual(chance(model.chain(8), 0, 7), (1, 1))
        self.assertEqual(chance(model.chain(8), 7, 0), (0, 1))
        self.assertEqual(chance((2, ((1, 0),)), 0, 1), (0, 1))

    def test_without_a_common_divisor(self):
        for one, other in itertools.permutations(range(8), 2):
            self.assertEqual(chance((8, ()), one, other), (1, 2))

    def test_all_of_few_things(self):
        for many in (2, 3, 4):
            for order in model.unbarred(many):
                self.compare(order)

    def test_some_of_more_things(self):
        for order in samples(137, (5, 6), 10):
            self.compare(order)
        for order in samples(138, (7, 8), 1):
            self.compare(order)

    def compare(self, order):
        rows = model.full_rows(order)
        for one, other in itertools.permutations(range(order[0]), 2):
            part = model.part_ahead(rows, one, other)
            self.assertEqual(chance(order, one, other), (part.numerator, part.denominator))

    def test_the_same_thing(self):
        for order in ((1, ()), SOME, (8, ())):
            for thing in range(order[0]):
                with self.assertRaises(NoThing):
                    chance(order, thing, thing)

    def test_no_thing(self):
        for order in ((1, ()), SOME, (8, ())):
            for thing in wrong.no_things(order[0]):
                for two in ((thing, 0), (0, thing), (thing, thing)):
                    with self.assertRaises(NoThing):
                        chance(order, *two)

    def test_barred_is_named_ahead(self):
        for order in model.BARRED:
            for two in ((0, 1), (0, 0), (0, order[0]), (None, 0), (True, False)):
                with self.assertRaises(Barred):
                    chance(order, *two)

    def test_no_order_is_named_ahead(self):
        for order in wrong.no_orders():
            for two in ((0, 1), (0, 0), (None, True)):
                with self.assertRaises(NoOrder):
                    chance(order, *two)


if __name__ == "__main__":
    unittest.main()
