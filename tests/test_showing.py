import itertools
import unittest

from shownshort.errors import InvalidLength, InvalidRow, InvalidText
from shownshort.shorteners import Shortener, plan, show, widest
from tests.helper import (
    NO_LENGTHS, NO_TEXTS, ROW, SHORT, SIGNS, assert_examples_hold, assert_refused, filled, modelled_row, text_of,
    wrong_rows,
)

EXAMPLES = r"""
>>> from shownshort.shorteners import Shortener, plan, show, widest
>>> short = Shortener(8, 3, 2, "...")
>>> [show((short,), "abcdefgh"), show((short,), "abcdefghi"), plan((short,), 10), plan((short,), 2), widest((short,)), repr(short)]
['abcdefgh', 'abc...hi', (0, 1, 2, '.', '.', '.', 8, 9), (0, 1), 8, "Shortener(8, 3, 2, '...')"]
>>> [show((Shortener(2, 3, 3, "~"),), "abcd"), widest((Shortener(2, 3, 3, "~"),)), show((short, Shortener(6, 0, 4, "~")), "abcdefghi")]
['abc~bcd', 7, '~..hi']
"""

# Few enough for all rows of them, and as different as can be: nothing shown, overlaps, each number at its ends.
MIXED = (
    SHORT, Shortener(0, 0, 0, ""), Shortener(2, 3, 3, "~"), Shortener(6, 0, 4, "0a"), Shortener(40, 40, 1, ""),
    Shortener(39, 40, 40, "z.z"),
)
ROWS = [row for many in range(1, 5) for row in itertools.product(MIXED, repeat=many)]


class ShowTest(unittest.TestCase):
    def test_examples(self):
        assert_examples_hold(self, EXAMPLES)

    def test_around_the_limit(self):
        for limit in (0, 1, 2, 8, 39, 40):
            row = (Shortener(limit, 1, 1, "~~"),)
            for length in {0, max(0, limit - 1), limit}:
                with self.subTest(limit=limit, length=length):
                    self.assertEqual(show(row, text_of(length)), text_of(length))
            for length in (limit + 1, limit + 2, 200):
                with self.subTest(limit=limit, length=length):
                    text = text_of(length)
                    self.assertEqual(show(row, text), text[0] + "~~" + text[-1])

    def test_the_empty_text(self):
        for short in MIXED:
            self.assertEqual(show((short,), ""), "")

    def test_heads_and_tails(self):
        shown = {
            (0, 0, 0, ""): "",
            (0, 0, 0, "~"): "~",
            (0, 2, 0, "~"): "ab~",
            (0, 0, 2, "~"): "~de",
            (0, 2, 2, "~"): "ab~de",
            (0, 2, 3, "~"): "ab~cde",
            (0, 3, 3, "~"): "abc~cde",
            (0, 5, 5, "~"): "abcde~abcde",
            (0, 4, 5, ""): "abcdabcde",
            (0, 6, 0, "~"): "abcde~",
            (0, 0, 6, "~"): "~abcde",
            (4, 40, 1, "..."): "abcde...e",
            (4, 1, 40, "..."): "a...abcde",
            (4, 40, 40, "..."): "abcde...abcde",
            (5, 1, 1, "~"): "abcde",
        }
        for told, expected in shown.items():
            with self.subTest(told):
                self.assertEqual(show((Shortener(*told),), "abcde"), expected)

    def test_marks_of_each_size(self):
        for mark in ("", "~", ".a", "0.9", "..."):
            with self.subTest(mark):
                self.assertEqual(show((Shortener(4, 2, 1, mark),), "abcdefg"), "ab" + mark + "g")
                self.assertEqual(show((Shortener(7, 2, 1, mark),), "abcdefg"), "abcdefg")

    def test_one_shortener_behind_the_other(self):
        first = Shortener(8, 3, 2, "...")
        second = Shortener(6, 0, 4, "~")
        third = Shortener(3, 2, 2, "")
        fourth = Shortener(0, 1, 0, "ab")
        self.assertEqual(show((first,), "abcdefghi"), "abc...hi")
        self.assertEqual(show((first, second), "abcdefghi"), "~..hi")
        self.assertEqual(show((first, second, third), "abcdefghi"), "~.hi")
        self.assertEqual(show((first, second, third, fourth), "abcdefghi"), "~ab")
        self.assertEqual(show((second, first), "abcdefghi"), "~fghi")
        self.assertEqual(show((fourth, third, second, first), "abcdefghi"), "aab")
        self.assertEqual(show((Shortener(3, 0, 1, "~"), Shortener(1, 40, 40, "")), "abcd"), "~d~d")

    def test_all_rows_show_what_the_model_shows(self):
        for row in ROWS:
            for length in (0, 1, 2, 3, 6, 7, 8, 9, 39, 40, 41, 200):
                if show(row, text_of(length)) != modelled_row(row, text_of(length)):
                    self.fail((row, length))

    def test_all_signs_and_200_of_them_are_let(self):
        self.assertEqual(show((Shortener(40, 0, 0, ""),), SIGNS), SIGNS)
        self.assertEqual(show(ROW, "a" * 200), "aaa...aa")
        self.assertEqual(show((Shortener(0, 40, 40, "~~~"),) * 4, text_of(200)), text_of(40) + "~~~" + text_of(200)[160:])

    def test_by_name_and_again(self):
        self.assertEqual(show(text="abcdefghi", row=ROW), "abc...hi")
        self.assertEqual(show(ROW, text="abcdefghi"), show(ROW, "abcdefghi"))
        self.assertIs(type(show(ROW, "abcdefghi")), str)


class PlanTest(unittest.TestCase):
    def test_around_the_limit(self):
        for limit in (0, 1, 2, 8, 39, 40):
            row = (Shortener(limit, 1, 1, "~a"),)
            for length in {0, max(0, limit - 1), limit}:
                with self.subTest(limit=limit, length=length):
                    self.assertEqual(plan(row, length), tuple(range(length)))
            for length in (limit + 1, limit + 2, 500):
                with self.subTest(limit=limit, length=length):
                    self.assertEqual(plan(row, length), (0, "~", "a", length - 1))

    def test_heads_and_tails(self):
        self.assertEqual(plan((Shortener(2, 3, 3, "~"),), 4), (0, 1, 2, "~", 1, 2, 3))
        self.assertEqual(plan((Shortener(0, 40, 40, ""),), 2), (0, 1, 0, 1))
        self.assertEqual(plan((Shortener(0, 0, 0, ""),), 7), ())
        self.assertEqual(plan((Shortener(0, 0, 1, ""),), 500), (499,))

    def test_one_shortener_behind_the_other(self):
        row = (SHORT, Shortener(6, 0, 4, "~"), Shortener(3, 2, 2, ""), Shortener(0, 1, 0, "01"))
        self.assertEqual(plan(row[:1], 9), (0, 1, 2, ".", ".", ".", 7, 8))
        self.assertEqual(plan(row[:2], 9), ("~", ".", ".", 7, 8))
        self.assertEqual(plan(row[:3], 9), ("~", ".", 7, 8))
        self.assertEqual(plan(row, 9), ("~", "0", "1"))
        self.assertEqual(plan(row[:2], 7), ("~", 3, 4, 5, 6))

    def test_places_and_signs_are_told_apart(self):
        told = plan((Shortener(2, 2, 1, "012"),), 3)
        self.assertEqual(told, (0, 1, "0", "1", "2", 2))
        self.assertEqual([type(source) for source in told], [int, int, str, str, str, int])
        self.assertIs(type(told), tuple)

    def test_filled_in_it_is_what_is_shown(self):
        for row in ROWS:
            for length in (0, 1, 2, 3, 6, 7, 8, 9, 39, 40, 41, 200):
                text = text_of(length)
                if filled(plan(row, length), text) != show(row, text):
                    self.fail((row, length))

    def test_filled_in_for_the_greatest_length(self):
        for row in ROWS:
            if filled(plan(row, 500), text_of(500)) != modelled_row(row, text_of(500)):
                self.fail(row)

    def test_by_name_and_again(self):
        self.assertEqual(plan(length=9, row=ROW), (0, 1, 2, ".", ".", ".", 7, 8))
        self.assertEqual(plan(ROW, length=9), plan(ROW, 9))
        self.assertEqual(plan(ROW, 0), ())


class WidestTest(unittest.TestCase):
    def test_one_shortener(self):
        widths = {
            (8, 3, 2, "..."): 8,
            (2, 3, 3, "~"): 7,
            (0, 0, 0, ""): 0,
            (0, 0, 0, "abc"): 3,
            (10, 0, 0, ""): 10,
            (40, 0, 0, ""): 40,
            (0, 40, 0, ""): 40,
            (0, 0, 40, "~"): 41,
            (0, 40, 40, "..."): 83,
            (40, 40, 1, ""): 41,
            (7, 3, 2, "..."): 8,
        }
        for told, width in widths.items():
            with self.subTest(told):
                self.assertEqual(widest((Shortener(*told),)), width)

    def test_a_later_shortener_makes_it_shorter(self):
        self.assertEqual(widest((SHORT, Shortener(5, 1, 0, ""))), 5)
        self.assertEqual(widest((SHORT, Shortener(0, 0, 0, "~"))), 1)
        self.assertEqual(widest((Shortener(0, 40, 40, "..."), Shortener(0, 2, 2, ""))), 4)

    def test_a_later_shortener_makes_it_longer(self):
        self.assertEqual(widest((Shortener(2, 3, 3, "~"), Shortener(6, 40, 40, "..."))), 17)
        self.assertEqual(widest((SHORT, Shortener(7, 8, 8, ""))), 16)

    def test_widest_for_a_single_length(self):
        self.assertEqual(widest((Shortener(40, 0, 0, ""), Shortener(39, 40, 40, "..."))), 83)
        self.assertEqual(widest((Shortener(5, 0, 0, ""), Shortener(4, 5, 5, "~"))), 11)

    def test_the_greatest_of_all_plans(self):
        for row in ROWS:
            if widest(row) != max(len(plan(row, length)) for length in range(100)):
                self.fail(row)

    def test_the_greatest_of_what_the_model_shows(self):
        for row in ROWS:
            if widest(row) != max(len(modelled_row(row, text_of(length))) for length in range(50)):
                self.fail(row)

    def test_by_name_and_again(self):
        self.assertEqual(widest(row=ROW), 8)
        self.assertEqual(widest(ROW), widest(ROW))
        self.assertIs(type(widest(ROW)), int)


class RefusedTest(unittest.TestCase):
    def assert_row_refused(self, row, index):
        assert_refused(self, InvalidRow, "index", index, show, row, "abc")
        assert_refused(self, InvalidRow, "index", index, show, text="abc", row=row)
        assert_refused(self, InvalidRow, "index", index, plan, row, 3)
        assert_refused(self, InvalidRow, "index", index, plan, length=3, row=row)
        assert_refused(self, InvalidRow, "index", index, widest, row)
        assert_refused(self, InvalidRow, "index", index, widest, row=row)

    def test_rows(self):
        for row, index in wrong_rows():
            with self.subTest(repr(row)):
                self.assert_row_refused(row, index)

    def test_texts(self):
        for text in NO_TEXTS:
            with self.subTest(repr(text)):
                assert_refused(self, InvalidText, "value", text, show, ROW, text)
                assert_refused(self, InvalidText, "value", text, show, text=text, row=ROW)

    def test_lengths(self):
        for length in NO_LENGTHS:
            with self.subTest(repr(length)):
                assert_refused(self, InvalidLength, "value", length, plan, ROW, length)
                assert_refused(self, InvalidLength, "value", length, plan, length=length, row=ROW)

    def test_the_row_is_looked_at_first(self):
        for row, index in ((None, None), ([SHORT], None), ((), None), (ROW * 5, None), ((SHORT, 1), 1), ((1, SHORT), 0)):
            for wrong in (None, -1, True, "A", "a" * 201, 501, []):
                with self.subTest(repr(row), wrong=wrong):
                    assert_refused(self, InvalidRow, "index", index, show, row, wrong)
                    assert_refused(self, InvalidRow, "index", index, show, text=wrong, row=row)
                    assert_refused(self, InvalidRow, "index", index, plan, row, wrong)
                    assert_refused(self, InvalidRow, "index", index, plan, length=wrong, row=row)

    def test_the_greatest_ones_are_let(self):
        self.assertEqual(show(ROW * 4, text_of(200)), show(ROW, text_of(200)))
        self.assertEqual(plan(ROW * 4, 500), (0, 1, 2, ".", ".", ".", 498, 499))


if __name__ == "__main__":
    unittest.main()
