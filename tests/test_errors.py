import unittest

from noticed import errors

NAMES = ["NoOrder", "NoNumbers", "NoStep", "NoThing", "NoCount", "NoTelling", "Barred", "Full", "Nothing",
         "NoNames", "NoRow", "NoSeveral", "NoText"]


class Errors(unittest.TestCase):
    def test_any_refusal_is_a_value_error(self):
        self.assertEqual(errors.OrderError.__bases__, (ValueError,))

    def test_each_stands_straight_under_order_error(self):
        for name in NAMES:
            with self.subTest(name):
                self.assertEqual(getattr(errors, name).__bases__, (errors.OrderError,))

    def test_they_are_unlike(self):
        self.assertEqual(len({getattr(errors, name) for name in NAMES}), 13)

    def test_they_can_be_raised_and_taken(self):
        for name in NAMES:
            with self.subTest(name):
                with self.assertRaises(errors.OrderError):
                    raise getattr(errors, name)("words")


if __name__ == "__main__":
    unittest.main()
