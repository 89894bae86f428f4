import unittest

from whyfacts import errors

REFUSALS = ["BadFact", "BadRule", "BadWidth", "Unbound", "Ringed", "TooMany", "NoFact", "NoText"]


class ErrorsTest(unittest.TestCase):
    def test_fact_error_stands_straight_under_value_error(self):
        self.assertEqual(errors.FactError.__bases__, (ValueError,))

    def test_each_refusal_stands_straight_under_fact_error(self):
        for name in REFUSALS:
            with self.subTest(name):
                self.assertEqual(getattr(errors, name).__bases__, (errors.FactError,))

    def test_each_refusal_bears_its_name(self):
        for name in ["FactError"] + REFUSALS:
            with self.subTest(name):
                self.assertEqual(getattr(errors, name).__name__, name)

    def test_none_stands_under_another(self):
        for name in REFUSALS:
            for other in REFUSALS:
                with self.subTest(name=name, other=other):
                    under = issubclass(getattr(errors, name), getattr(errors, other))
                    self.assertEqual(under, name == other)

    def test_each_is_raised_with_words_and_without(self):
        for name in ["FactError"] + REFUSALS:
            refusal = getattr(errors, name)
            with self.subTest(name):
                with self.assertRaises(ValueError) as caught:
                    raise refusal("some words")
                self.assertIs(type(caught.exception), refusal)
                with self.assertRaises(errors.FactError):
                    raise refusal


if __name__ == "__main__":
    unittest.main()
