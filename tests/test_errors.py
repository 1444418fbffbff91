import unittest

from oddcoin import errors


class Errors(unittest.TestCase):
    def test_coin_error_is_a_value_error(self):
        self.assertEqual(errors.CoinError.__bases__, (ValueError,))

    def test_each_refusal_stands_straight_under_coin_error(self):
        for name in ("BadMarks", "BadWeighing", "BadOutcome", "Never", "BadCoin", "BadText"):
            with self.subTest(name=name):
                self.assertEqual(getattr(errors, name).__bases__, (errors.CoinError,))


if __name__ == "__main__":
    unittest.main()
