import itertools
import random
import unittest

from noticed.errors import Barred, Full, NoOrder, NoText, Nothing, NoTelling
from noticed.keepers import Keeper
from noticed.writing import keeper_of, keeper_text, read, written
from tests import model, wrong

SIGNS = "0123456789:< lmb-+x\n\t>"


def keeper_by(order):
    """The keeper that has the things of an order that nothing bars."""
    keeper = Keeper()
    words = {"first": "more", "second": "less", "none": "beside"}
    for newest in range(1, order[0]):
        keeper.come(tuple(words[model.tells_of_two(order, thing, newest)] for thing in range(newest)))
    return keeper


def changed_by_one_sign(text):
    """Every text that differs by one sign that is another one, too many or too few."""
    found = set()
    for place in range(len(text) + 1):
        found |= {text[:place] + sign + text[place:] for sign in SIGNS}
        found |= {text[:place] + sign + text[place + 1:] for sign in SIGNS}
        found.add(text[:place] + text[place + 1:])
    return sorted(found - {text})


class Written(unittest.TestCase):
    def test_orders(self):
        self.assertEqual(written((3, ((0, 1), (0, 2), (1, 2)))), "3: 0<1 0<2 1<2")
        self.assertEqual(written((2, ((1, 0),))), "2: 1<0")
        self.assertEqual(written((2, ((0, 1), (1, 0)))), "2: 0<1 1<0")

    def test_without_pairs(self):
        self.assertEqual(written((1, ())), "1:")
        self.assertEqual(written((8, ())), "8:")

    def test_all_pairs_of_eight(self):
        order = (8, tuple(itertools.permutations(range(8), 2)))
        self.assertEqual(len(written(order)), 2 + 56 * 4)
        self.assertEqual(written(order), model.text_of(order))

    def test_no_order(self):
        for order in wrong.no_orders():
            with self.assertRaises(NoOrder):
                written(order)


class Read(unittest.TestCase):
    def test_orders(self):
        self.assertEqual(read("3: 0<1 0<2 1<2"), (3, ((0, 1), (0, 2), (1, 2))))
        self.assertEqual(read("2: 1<0"), (2, ((1, 0),)))

    def test_without_pairs(self):
        self.assertEqual(read("1:"), (1, ()))
        self.assertEqual(read("8:"), (8, ()))

    def test_what_four_things_bar_is_an_order_too(self):
        for order in model.BARRED:
            self.assertEqual(read(model.text_of(order)), order)

    def test_there_and_back(self):
        chance = random.Random(151)
        some = [model.random_relation(chance, many) for many in (4, 5, 6, 7, 8) for turn in range(40)]
        for order in list(model.all_relations(1)) + list(model.all_relations(2)) + list(model.all_relations(3)) + some:
            self.assertEqual(written(order), model.text_of(order))
            self.assertEqual(read(written(order)), order)

    def test_whole_numbers_alone(self):
        many, pairs = read("2: 0<1")
        for number in (many, pairs[0][0], pairs[0][1]):
            self.assertIs(number.__class__, int)
        self.assertIs(pairs.__class__, tuple)

    def test_one_sign_otherwise(self):
        for text in ("1:", "2:", "8:", "2: 0<1", "3: 0<1 0<2", "3: 2<0 2<1", "8: 0<7 6<7"):
            for changed in changed_by_one_sign(text):
                order = model.order_in(changed)
                if order is not None:
                    self.assertEqual(read(changed), order)
                else:
                    with self.assertRaises(NoText):
                        read(changed)

    def test_blanks(self):
        for text in (" 2: 0<1", "2 : 0<1", "2:  0<1", "2:0<1", "2: 0<1 ", "2: 0 <1", "2: 0< 1", "2:\t0<1", "2:\n0<1",
                     "2: 0<1\n", "2: ", "1: ", " 1:", "1 :", "3: 0<1  0<2", "3: 0<10<2", "3: 0<1,0<2", "\n1:"):
            with self.assertRaises(NoText):
                read(text)

    def test_leading_zeros_and_signs(self):
        for text in ("02: 0<1", "2: 00<1", "2: 0<01", "+2: 0<1", "2: +0<1", "2: 0<+1", "2: -0<1", "01:", "1_0:", "-1:"):
            with self.assertRaises(NoText):
                read(text)

    def test_other_digits(self):
        for text in ("\u0662: 0<1", "\u00b2: 0<1", "2: \u0660<1", "2: 0<\u0661", "2: 0<\u00b9", "\uff11:",
                     "2\uff1a 0<1", "2: 0\uff1c1", "2:\u00a00<1"):
            with self.assertRaises(NoText):
                read(text)

    def test_pairs_that_do_not_rise(self):
        for text in ("2: 1<0 0<1", "3: 0<2 0<1", "3: 0<1 1<2 0<2", "2: 0<1 0<1", "3: 0<1 0<2 0<2"):
            with self.assertRaises(NoText):
                read(text)

    def test_no_things(self):
        for text in ("0:", "9:", "10:", "9: 0<1", "2: 0<2", "2: 2<0", "2: 0<0", "1: 0<0", "8: 0<8", "8: 8<0", "1: 0<1",
                     "2: 0<9", "12: 0<1"):
            with self.assertRaises(NoText):
                read(text)

    def test_parts_of_a_text(self):
        for text in ("", ":", "2", "2: 0<", "2: 0", "2: <1", "2: 0>1", "2: 0<1 ", "2: 0<1 0", "2; 0<1", "2: 0<1<2",
                     ": 0<1", "2: 0=1", "2: 1>0", "a:", "2: a<b", "(2, ((0, 1),))", "2:2:", "1:1:", "m", "b bb"):
            with self.assertRaises(NoText):
                read(text)

    def test_no_text(self):
        for text in wrong.no_texts():
            with self.assertRaises(NoText):
                read(text)

    def test_long_texts(self):
        for text in ("2:" + " 0<1" * 10000, "1" * 10000 + ":", "8:" + " " * 10000):
            with self.assertRaises(NoText):
                read(text)


class KeeperText(unittest.TestCase):
    def test_the_first_thing_alone(self):
        self.assertEqual(keeper_text(Keeper()), "")

    def test_letters(self):
        for word, letter in (("less", "l"), ("more", "m"), ("beside", "b")):
            keeper = Keeper()
            keeper.come((word,))
            self.assertEqual(keeper_text(keeper), letter)

    def test_what_was_told_of_each(self):
        keeper = Keeper()
        keeper.come(("more",))
        keeper.come(("beside", "less"))
        keeper.come(("less", "less", "less"))
        self.assertEqual(keeper_text(keeper), "m bl lll")

    def test_eight_things(self):
        self.assertEqual(keeper_text(keeper_by(model.chain(8))), "m mm mmm mmmm mmmmm mmmmmm mmmmmmm")
        self.assertEqual(keeper_text(keeper_by((8, ()))), "b bb bbb bbbb bbbbb bbbbbb bbbbbbb")

    def test_what_was_taken_back_is_not_written(self):
        keeper = keeper_by(model.chain(3))
        keeper.undo()
        self.assertEqual(keeper_text(keeper), "m")
        keeper.undo()
        self.assertEqual(keeper_text(keeper), "")
        keeper.come(("less",))
        self.assertEqual(keeper_text(keeper), "l")

    def test_what_was_refused_is_not_written(self):
        keeper = keeper_by(model.chain(3))
        with self.assertRaises(Barred):
            keeper.come(("beside", "beside", "more"))
        with self.assertRaises(NoTelling):
            keeper.come(("more",))
        self.assertEqual(keeper_text(keeper), "m mm")

    def test_the_keeper_is_not_changed(self):
        keeper = keeper_by((3, ((0, 2),)))
        self.assertEqual(keeper_text(keeper), keeper_text(keeper))
        self.assertEqual(keeper.order(), (3, ((0, 2),)))


class KeeperOf(unittest.TestCase):
    def test_the_empty_text(self):
        keeper = keeper_of("")
        self.assertIsInstance(keeper, Keeper)
        self.assertEqual(keeper.order(), (1, ()))
        with self.assertRaises(Nothing):
            keeper.undo()
        self.assertEqual(keeper.come(("more",)), 1)
        self.assertEqual(keeper_of("").order(), (1, ()))

    def test_letters(self):
        self.assertEqual(keeper_of("l").order(), (2, ((1, 0),)))
        self.assertEqual(keeper_of("m").order(), (2, ((0, 1),)))
        self.assertEqual(keeper_of("b").order(), (2, ()))
        self.assertEqual(keeper_of("m bl lll").order(), (4, ((0, 1), (2, 1), (3, 0), (3, 1), (3, 2))))

    def test_there_and_back(self):
        chance = random.Random(152)
        orders = [order for many in (1, 2, 3, 4) for order in model.unbarred(many)]
        orders += [model.random_unbarred(chance, many) for many in (5, 6, 7, 8) for turn in range(25)]
        for order in orders:
            text = model.text_of_keeper(order)
            self.assertEqual(keeper_text(keeper_by(order)), text)
            keeper = keeper_of(text)
            self.assertIsInstance(keeper, Keeper)
            self.assertEqual(keeper.order(), order)
            self.assertEqual(keeper.numbers(), keeper_by(order).numbers())
            self.assertEqual(keeper_text(keeper), text)

    def test_eight_things(self):
        keeper = keeper_of("m mm mmm mmmm mmmmm mmmmmm mmmmmmm")
        self.assertEqual(keeper.order(), model.chain(8))
        with self.assertRaises(Full):
            keeper.come(("more",) * 8)
        self.assertEqual(keeper_text(keeper), "m mm mmm mmmm mmmmm mmmmmm mmmmmmm")

    def test_it_goes_on_as_the_first_one(self):
        one = keeper_by((3, ((0, 1), (0, 2))))
        other = keeper_of(keeper_text(one))
        for telling in itertools.product(("less", "more", "beside"), repeat=3):
            self.assertEqual(self.answers(one, telling), self.answers(other, telling))

    def answers(self, keeper, telling):
        try:
            number = keeper.come(telling)
        except Barred:
            return "barred"
        answer = (number, keeper.order(), keeper.numbers(), keeper_text(keeper))
        keeper.undo()
        return answer

    def test_it_goes_back_as_the_first_one(self):
        one = keeper_by(model.order_of((3, 1, 4, 1, 5, 9, 2, 6), 3))
        other = keeper_of(keeper_text(one))
        for turn in range(7):
            self.assertIsNone(other.undo())
            one.undo()
            self.assertEqual(other.order(), one.order())
            self.assertEqual(keeper_text(other), keeper_text(one))
        with self.assertRaises(Nothing):
            other.undo()

    def test_it_does_not_change_the_first_one(self):
        one = keeper_by(model.chain(3))
        other = keeper_of(keeper_text(one))
        other.undo()
        other.undo()
        other.come(("less",))
        self.assertEqual(one.order(), model.chain(3))
        one.come(("more", "more", "more"))
        self.assertEqual(other.order(), (2, ((1, 0),)))

    def test_two_of_one_text_are_apart(self):
        one, other = keeper_of("m"), keeper_of("m")
        one.undo()
        self.assertEqual(other.order(), (2, ((0, 1),)))

    def test_a_letter_too_many_or_too_few(self):
        for text in ("mm", "lb", "m m", "m mmm", "m mm mm", "m mm mmmm", "b bb bbb bbbb bbbbb bbbbbb bbbbbbbb",
                     "b bb bbb bbbb bbbbb bbbbbb bbbbbb", "bb bb", "mm m"):
            with self.assertRaises(NoText):
                keeper_of(text)

    def test_one_sign_otherwise(self):
        known = {model.text_of_keeper(order) for many in (1, 2, 3, 4) for order in model.unbarred(many)}
        for text in ("", "m", "b bl", "m mm", "l bm bmb"):
            for changed in changed_by_one_sign(text):
                if changed in known:
                    self.assertEqual(keeper_text(keeper_of(changed)), changed)
                else:
                    with self.assertRaises(NoText):
                        keeper_of(changed)

    def test_blanks(self):
        for text in (" ", "  ", " m", "m ", " m mm", "m  mm", "m mm ", "m\nmm", "m\tmm", "m\n", "\nm", "m\u00a0mm"):
            with self.assertRaises(NoText):
                keeper_of(text)

    def test_other_letters(self):
        for text in ("L", "M", "B", "x", "0", "less", "more", "beside", "e", "m mx", "m xm", "\uff4d", "lmb", "1:",
                     "2: 0<1"):
            with self.assertRaises(NoText):
                keeper_of(text)

    def test_nine_things(self):
        for letter in "lmb":
            seven = " ".join(letter * many for many in range(1, 8))
            self.assertEqual(keeper_of(seven).order()[0], 8)
            for many in (0, 1, 7, 8, 9):
                with self.assertRaises(NoText):
                    keeper_of(seven + " " + letter * many)
            with self.assertRaises(NoText):
                keeper_of(seven + " " + letter * 8 + " " + letter * 9)

    def test_what_four_things_bar(self):
        for text in ("m mm bbm", "m mm bbb", "m lm", "m bb bbm", "m mm bbm mmmm"):
            with self.assertRaises(NoText):
                keeper_of(text)

    def test_every_text_of_four_things(self):
        known = {model.text_of_keeper(order) for order in model.unbarred(4)}
        for letters in itertools.product("lmb", repeat=6):
            text = letters[0] + " " + "".join(letters[1:3]) + " " + "".join(letters[3:])
            if text in known:
                self.assertEqual(keeper_text(keeper_of(text)), text)
            else:
                with self.assertRaises(NoText):
                    keeper_of(text)

    def test_no_text(self):
        for text in wrong.no_texts():
            with self.assertRaises(NoText):
                keeper_of(text)

    def test_long_texts(self):
        for text in ("m" * 100000, "m " * 100000, " " * 100000):
            with self.assertRaises(NoText):
                keeper_of(text)


if __name__ == "__main__":
    unittest.main()
