import itertools
import unittest

from shownshort.errors import InvalidMark, InvalidNumber
from shownshort.shorteners import Shortener
from tests.helper import NO_MARKS, SIGNS, assert_equal_both_ways, assert_refused

TOLD = (
    (8, 3, 2, "..."), (0, 0, 0, ""), (40, 40, 40, "~~~"), (0, 40, 0, "a"), (40, 0, 40, "0z"), (1, 2, 3, "..."),
    (3, 2, 1, "..."), (8, 3, 2, ".."), (8, 3, 2, ""), (8, 2, 3, "..."), (9, 3, 2, "..."),
)
NO_NUMBERS = (
    -1, 41, -40, 10 ** 19, -(10 ** 19), True, False, "8", "", "a", None, (8,), (), [8], [], {}, {8: 8}, {8}, b"8", b"",
    int, len, object(), Shortener(8, 3, 2, "..."),
)


class ShortenerTest(unittest.TestCase):
    def test_properties_and_told(self):
        for told in TOLD:
            with self.subTest(told):
                short = Shortener(*told)
                self.assertEqual((short.limit, short.head, short.tail, short.mark), told)
                self.assertIs(type(short.told), tuple)
                self.assertEqual(short.told, told)

    def test_each_property_is_its_own(self):
        short = Shortener(8, 3, 2, "ab")
        self.assertEqual(short.limit, 8)
        self.assertEqual(short.head, 3)
        self.assertEqual(short.tail, 2)
        self.assertEqual(short.mark, "ab")

    def test_made_by_keyword(self):
        short = Shortener(mark="..", tail=2, head=3, limit=8)
        self.assertEqual(short.told, (8, 3, 2, ".."))
        self.assertEqual(Shortener(8, 3, mark="", tail=0).told, (8, 3, 0, ""))

    def test_every_number_and_every_sign_is_let(self):
        for number in range(41):
            self.assertEqual(Shortener(number, 0, 1, "").told, (number, 0, 1, ""))
            self.assertEqual(Shortener(0, number, 1, "").told, (0, number, 1, ""))
            self.assertEqual(Shortener(0, 1, number, "").told, (0, 1, number, ""))
        self.assertEqual(len(set(SIGNS)), 38)
        for sign in SIGNS:
            self.assertEqual(Shortener(1, 2, 3, sign).mark, sign)
            self.assertEqual(Shortener(1, 2, 3, sign * 3).mark, sign * 3)

    def test_repr(self):
        self.assertEqual(repr(Shortener(8, 3, 2, "...")), "Shortener(8, 3, 2, '...')")
        self.assertEqual(repr(Shortener(0, 40, 0, "")), "Shortener(0, 40, 0, '')")
        self.assertEqual(repr(Shortener(head=0, limit=40, tail=7, mark="~a")), "Shortener(40, 0, 7, '~a')")

    def test_true(self):
        self.assertIs(bool(Shortener(0, 0, 0, "")), True)
        self.assertIs(bool(Shortener(8, 3, 2, "...")), True)


class ComparedTest(unittest.TestCase):
    def test_equal_just_with_the_same_four_properties(self):
        for told, other in itertools.product(TOLD, repeat=2):
            with self.subTest(told, other=other):
                assert_equal_both_ways(self, Shortener(*told), Shortener(*other), told == other)

    def test_each_property_counts(self):
        short = Shortener(8, 3, 2, "ab")
        for told in ((9, 3, 2, "ab"), (8, 4, 2, "ab"), (8, 3, 1, "ab"), (8, 3, 2, "ba"), (8, 3, 2, "a")):
            with self.subTest(told):
                assert_equal_both_ways(self, short, Shortener(*told), False)

    def test_showing_the_same_is_not_enough(self):
        assert_equal_both_ways(self, Shortener(5, 5, 0, ""), Shortener(4, 5, 0, ""), False)

    def test_equal_to_nothing_else(self):
        for told in TOLD:
            short = Shortener(*told)
            others = (
                short.told, list(short.told), repr(short), short.mark, short.limit, None, True, False, 0, "", (), [], {},
                b"", set(), (short,), [short], Shortener, object(), ValueError(short), InvalidMark(short),
            )
            for other in others:
                with self.subTest(told, other=repr(other)):
                    assert_equal_both_ways(self, short, other, False)

    def test_rows_compare_by_their_shorteners(self):
        row = (Shortener(8, 3, 2, "..."), Shortener(0, 0, 0, ""))
        self.assertEqual(row, (Shortener(8, 3, 2, "..."), Shortener(0, 0, 0, "")))
        self.assertNotEqual(row, row[::-1])


class RefusedTest(unittest.TestCase):
    def test_each_of_the_three_numbers(self):
        for wrong in NO_NUMBERS:
            for at, name in enumerate(("limit", "head", "tail")):
                with self.subTest(name, wrong=repr(wrong)):
                    given = [8, 3, 2, "..."]
                    given[at] = wrong
                    assert_refused(self, InvalidNumber, "value", wrong, Shortener, *given)
                    named = dict(zip(("limit", "head", "tail", "mark"), given))
                    assert_refused(self, InvalidNumber, "value", wrong, Shortener, **named)

    def test_marks(self):
        for wrong in NO_MARKS:
            with self.subTest(repr(wrong)):
                assert_refused(self, InvalidMark, "value", wrong, Shortener, 8, 3, 2, wrong)
                assert_refused(self, InvalidMark, "value", wrong, Shortener, mark=wrong, tail=2, head=3, limit=8)

    def test_a_character_that_is_no_sign_at_each_place(self):
        for mark in ("A..", ".A.", "..A"):
            assert_refused(self, InvalidMark, "value", mark, Shortener, 8, 3, 2, mark)

    def test_every_other_character_is_no_sign(self):
        for code in [*range(0x250), 0x660, 0x2074, 0xff10, 0x1d7d8, 0x10ffff]:
            character = chr(code)
            if character not in SIGNS:
                assert_refused(self, InvalidMark, "value", character, Shortener, 8, 3, 2, character)

    def test_the_first_wrong_number_comes_out(self):
        wrongs = (-1, True, "3", None, [4])
        for one, two in itertools.permutations(wrongs, 2):
            with self.subTest(one=one, two=two):
                assert_refused(self, InvalidNumber, "value", one, Shortener, one, two, 2, "...")
                assert_refused(self, InvalidNumber, "value", one, Shortener, one, 3, two, "...")
                assert_refused(self, InvalidNumber, "value", one, Shortener, 8, one, two, "...")
                assert_refused(self, InvalidNumber, "value", one, Shortener, one, two, 41, "...")
                assert_refused(self, InvalidNumber, "value", one, Shortener, one, two, 41, "A")
                assert_refused(self, InvalidNumber, "value", one, Shortener, tail=two, limit=one, head=3, mark="...")

    def test_the_mark_is_looked_at_behind_the_numbers(self):
        for wrong in (-1, 41, True, None, "....", []):
            for mark in ("....", "A", None, 3):
                with self.subTest(wrong=wrong, mark=mark):
                    assert_refused(self, InvalidNumber, "value", wrong, Shortener, wrong, 3, 2, mark)
                    assert_refused(self, InvalidNumber, "value", wrong, Shortener, 8, wrong, 2, mark)
                    assert_refused(self, InvalidNumber, "value", wrong, Shortener, 8, 3, wrong, mark)
                    assert_refused(self, InvalidNumber, "value", wrong, Shortener, mark=mark, tail=wrong, head=3, limit=8)


if __name__ == "__main__":
    unittest.main()
