"""Point 3: the classes of the refusals."""

import unittest

from standsellers import errors

NAMES = ["NoWeb", "NoPlace", "NoStanding", "NoSeller", "NoRest", "TooMany", "NoMixture",
         "NoTree", "NoPrices", "NoNumber", "NoText", "NoForm", "NoneYet"]


class ErrorClasses(unittest.TestCase):

    def test_thirteen_names(self):
        told = sorted(name for name, value in vars(errors).items() if isinstance(value, type))
        self.assertEqual(told, sorted(NAMES + ["SellError"]))

    def test_sell_error_is_a_value_error(self):
        self.assertEqual(errors.SellError.__bases__, (ValueError,))

    def test_each_straight_under_sell_error(self):
        for name in NAMES:
            with self.subTest(name):
                made = getattr(errors, name)
                self.assertEqual(made.__name__, name)
                self.assertEqual(made.__bases__, (errors.SellError,))

    def test_none_under_another_one(self):
        for name in NAMES:
            for other in NAMES:
                with self.subTest(name, other=other):
                    under = issubclass(getattr(errors, name), getattr(errors, other))
                    self.assertEqual(under, name == other)

    def test_each_is_raised_and_caught(self):
        for name in NAMES:
            with self.subTest(name):
                with self.assertRaises(errors.SellError):
                    raise getattr(errors, name)("words")
                with self.assertRaises(ValueError):
                    raise getattr(errors, name)("words")


if __name__ == "__main__":
    unittest.main()
