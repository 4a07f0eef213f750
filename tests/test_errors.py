"""The interface: newsflood/errors.py."""

import unittest

from newsflood import errors


class Errors(unittest.TestCase):
    def test_news_error_is_a_value_error(self):
        self.assertEqual(errors.NewsError.__bases__, (ValueError,))

    def test_each_is_a_news_error(self):
        names = ("BadHouse", "BadDay", "BadWorth", "BadLife", "NotOwn", "BadLetter",
                 "BadTies", "NoWay", "BadRow", "BadText")
        for name in names:
            with self.subTest(name):
                self.assertEqual(getattr(errors, name).__bases__, (errors.NewsError,))

    def test_values(self):
        self.assertEqual(errors.BadRow(3).number, 3)
        self.assertEqual(errors.BadText(4).row, 4)
        self.assertIn("3", str(errors.BadRow(3)))
        self.assertIn("4", str(errors.BadText(4)))
        self.assertNotEqual(str(errors.NoWay("words")), "")


if __name__ == "__main__":
    unittest.main()
