import itertools
import random
import unittest

from noticed.errors import Barred, Full, NoTelling, Nothing
from noticed.keepers import Keeper
from noticed.numbers import least
from tests import model, wrong

WORDS = ("less", "more", "beside")


def keeper_of(many, word):
    keeper = Keeper()
    for count in range(1, many):
        keeper.come((word,) * count)
    return keeper


def telling_of(order, newest):
    """What an order tells of a thing beside those that are numbered below it."""
    found = []
    for thing in range(newest):
        if (newest, thing) in order[1]:
            found.append("less")
        else:
            found.append("more" if (thing, newest) in order[1] else "beside")
    return tuple(found)


def upto(order, many):
    return (many, tuple(pair for pair in order[1] if max(pair) < many))


class FirstThing(unittest.TestCase):
    def test_one_thing_is_there(self):
        self.assertEqual(Keeper().order(), (1, ()))
        self.assertEqual(Keeper().numbers(), (1, (0,)))

    def test_it_is_not_taken_back(self):
        keeper = Keeper()
        for turn in range(2):
            with self.assertRaises(Nothing):
                keeper.undo()
            self.assertEqual(keeper.order(), (1, ()))


class Come(unittest.TestCase):
    def test_the_new_one_is_less(self):
        keeper = Keeper()
        self.assertEqual(keeper.come(("less",)), 1)
        self.assertEqual(keeper.order(), (2, ((1, 0),)))
        self.assertEqual(keeper.numbers(), (1, (1, 0)))

    def test_the_new_one_is_more(self):
        keeper = Keeper()
        self.assertEqual(keeper.come(("more",)), 1)
        self.assertEqual(keeper.order(), (2, ((0, 1),)))
        self.assertEqual(keeper.numbers(), (1, (0, 1)))

    def test_the_new_one_is_beside(self):
        keeper = Keeper()
        self.assertEqual(keeper.come(("beside",)), 1)
        self.assertEqual(keeper.order(), (2, ()))
        self.assertEqual(keeper.numbers(), (1, (0, 0)))

    def test_one_after_another(self):
        keeper = Keeper()
        self.assertEqual(keeper.come(("more",)), 1)
        self.assertEqual(keeper.come(("beside", "beside")), 2)
        self.assertEqual(keeper.order(), (3, ((0, 1),)))
        self.assertEqual(keeper.numbers(), (2, (0, 2, 1)))
        self.assertEqual(keeper.come(("less", "less", "less")), 3)
        self.assertEqual(keeper.order(), (4, ((0, 1), (3, 0), (3, 1), (3, 2))))
        self.assertEqual(keeper.numbers(), (2, (2, 4, 3, 0)))

    def test_eight_things(self):
        self.assertEqual(keeper_of(8, "more").order(), model.chain(8))
        self.assertEqual(keeper_of(8, "beside").order(), (8, ()))
        self.assertEqual(keeper_of(8, "less").numbers(), (1, (7, 6, 5, 4, 3, 2, 1, 0)))

    def test_full(self):
        for word in WORDS:
            keeper = keeper_of(8, word)
            before = keeper.order()
            for other in WORDS:
                with self.assertRaises(Full):
                    keeper.come((other,) * 8)
            self.assertEqual(keeper.order(), before)
            self.assertEqual(keeper.numbers(), least(before))

    def test_every_telling_of_few_things(self):
        for many in (1, 2, 3):
            for order in model.unbarred(many):
                for telling in itertools.product(WORDS, repeat=many):
                    self.come_behind(order, telling)

    def come_behind(self, order, telling):
        keeper = Keeper()
        for newest in range(1, order[0]):
            self.assertEqual(keeper.come(telling_of(order, newest)), newest)
        self.assertEqual(keeper.order(), order)
        pairs = [(order[0], thing) for thing, word in enumerate(telling) if word == "less"]
        pairs += [(thing, order[0]) for thing, word in enumerate(telling) if word == "more"]
        grown = (order[0] + 1, tuple(sorted(order[1] + tuple(pairs))))
        if model.bars(grown):
            with self.assertRaises(Barred):
                keeper.come(telling)
            grown = order
        else:
            self.assertEqual(keeper.come(telling), order[0])
        self.assertEqual(keeper.order(), grown)
        self.assertEqual(keeper.numbers(), least(grown))

    def test_some_of_eight_things(self):
        chance = random.Random(41)
        for turn in range(60):
            order = model.random_unbarred(chance, 8)
            keeper = Keeper()
            for newest in range(1, 8):
                self.assertEqual(keeper.come(telling_of(order, newest)), newest)
                self.assertEqual(keeper.order(), upto(order, newest + 1))
            self.assertEqual(keeper.numbers(), least(order))
            for many in (7, 6, 5, 4, 3, 2, 1):
                self.assertIsNone(keeper.undo())
                self.assertEqual(keeper.order(), upto(order, many))
                self.assertEqual(keeper.numbers(), least(upto(order, many)))


class WhatDoesNotCome(unittest.TestCase):
    def test_all_is_as_before(self):
        keeper = keeper_of(3, "more")
        for turn in range(2):
            # the new one would be more than 2, but beside 0 and 1
            with self.assertRaises(Barred):
                keeper.come(("beside", "beside", "more"))
            self.assertEqual(keeper.order(), model.chain(3))
            self.assertEqual(keeper.numbers(), (1, (0, 1, 2)))
        self.assertEqual(keeper.come(("more", "more", "more")), 3)
        self.assertEqual(keeper.order(), model.chain(4))

    def test_barred_as_three_alone(self):
        keeper = keeper_of(3, "more")
        with self.assertRaises(Barred):
            keeper.come(("beside", "beside", "beside"))
        self.assertEqual(keeper.order(), model.chain(3))

    def test_the_last_one_taken_back_is_the_last_that_came(self):
        keeper = keeper_of(3, "more")
        with self.assertRaises(Barred):
            keeper.come(("beside", "beside", "more"))
        keeper.undo()
        self.assertEqual(keeper.order(), (2, ((0, 1),)))

    def test_no_telling(self):
        for many in (1, 2, 3, 8):
            for word in WORDS:
                keeper = keeper_of(many, word)
                before = keeper.order()
                for telling in wrong.no_tellings(many):
                    # also where there are 8 already, and Full is named later
                    with self.assertRaises(NoTelling):
                        keeper.come(telling)
                self.assertEqual(keeper.order(), before)

    def test_no_telling_is_named_ahead_of_barred(self):
        keeper = keeper_of(3, "more")
        for telling in (("beside", "beside", "more", "less"), ["beside", "beside", "more"], ("beside", "more", 0)):
            with self.assertRaises(NoTelling):
                keeper.come(telling)
        self.assertEqual(keeper.order(), model.chain(3))

    def test_full_is_named_ahead_of_barred(self):
        with self.assertRaises(Full):
            keeper_of(8, "more").come(("beside",) * 7 + ("more",))
        with self.assertRaises(Full):
            keeper_of(8, "more").come(("less",) + ("beside",) * 6 + ("more",))


class Undo(unittest.TestCase):
    def test_down_to_the_first_one(self):
        keeper = keeper_of(8, "more")
        for many in (7, 6, 5, 4, 3, 2, 1):
            self.assertIsNone(keeper.undo())
            self.assertEqual(keeper.order(), model.chain(many))
        with self.assertRaises(Nothing):
            keeper.undo()
        self.assertEqual(keeper.order(), (1, ()))
        self.assertEqual(keeper.come(("less",)), 1)

    def test_one_that_comes_behind_it(self):
        keeper = keeper_of(3, "more")
        keeper.undo()
        self.assertEqual(keeper.come(("less", "less")), 2)
        self.assertEqual(keeper.order(), (3, ((0, 1), (2, 0), (2, 1))))
        self.assertEqual(keeper.numbers(), (1, (1, 2, 0)))

    def test_there_is_room_again(self):
        keeper = keeper_of(8, "more")
        keeper.undo()
        self.assertEqual(keeper.come(("less",) * 7), 7)
        with self.assertRaises(Full):
            keeper.come(("less",) * 8)

    def test_what_was_barred_may_come(self):
        keeper = keeper_of(3, "more")
        with self.assertRaises(Barred):
            keeper.come(("beside", "beside", "beside"))
        keeper.undo()
        self.assertEqual(keeper.come(("beside", "beside")), 2)


class Apart(unittest.TestCase):
    def test_two_keepers_do_not_change_each_other(self):
        one, other = Keeper(), Keeper()
        one.come(("less",))
        self.assertEqual(other.order(), (1, ()))
        other.come(("more",))
        other.come(("more", "more"))
        self.assertEqual(one.order(), (2, ((1, 0),)))
        other.undo()
        other.undo()
        self.assertEqual(one.order(), (2, ((1, 0),)))
        self.assertEqual(one.numbers(), (1, (1, 0)))
        self.assertEqual(Keeper().order(), (1, ()))

    def test_the_same_calls_give_equal_answers(self):
        one, other = Keeper(), Keeper()
        for telling in (("more",), ("beside", "beside"), ("beside", "more", "beside")):
            self.assertEqual(self.answers(one, telling), self.answers(other, telling))

    def answers(self, keeper, telling):
        try:
            number = keeper.come(telling)
        except Barred:
            number = "barred"
        return (number, keeper.order(), keeper.numbers(), keeper.order(), keeper.numbers())


if __name__ == "__main__":
    unittest.main()
