import unittest

from shownshort.names import Namer
from shownshort.samples import sample_namer, sample_row
from shownshort.shorteners import Shortener, show


class SamplesTest(unittest.TestCase):
    def test_the_row(self):
        row = sample_row()
        self.assertIs(type(row), tuple)
        self.assertEqual([shortener.told for shortener in row], [(8, 3, 2, "...")])
        self.assertEqual(row, (Shortener(8, 3, 2, "..."),))
        self.assertEqual(show(row, "abcdefghi"), "abc...hi")

    def test_the_namer(self):
        namer = sample_namer()
        self.assertIs(type(namer), Namer)
        self.assertEqual((namer.rule, namer.width), ("free", 8))
        self.assertEqual(namer, Namer("free", 8))

    def test_equal_things_again(self):
        self.assertEqual(sample_row(), sample_row())
        self.assertEqual(sample_namer(), sample_namer())


if __name__ == "__main__":
    unittest.main()
