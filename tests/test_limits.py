import unittest

from shownshort import limits


class LimitsTest(unittest.TestCase):
    def test_each_limit(self):
        listed = {
            "MOST_SIGNS": 40,
            "MOST_MARK": 3,
            "MOST_ROW": 4,
            "MOST_VIEWS": 4,
            "MOST_TEXT": 200,
            "MOST_LENGTH": 500,
            "MOST_LISTED": 6,
            "MOST_SHELVED": 20,
        }
        for name, number in listed.items():
            with self.subTest(name):
                self.assertIs(type(getattr(limits, name)), int)
                self.assertEqual(getattr(limits, name), number)


if __name__ == "__main__":
    unittest.main()
