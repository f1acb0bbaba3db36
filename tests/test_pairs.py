import itertools
import random
import unittest

from shownshort.errors import InvalidLength, InvalidRow
from shownshort.pairs import least_pair, number_shown
from shownshort.shorteners import Shortener, plan, show
from tests.helper import (
    NO_LENGTHS, ROW, SHORT, SIGNS, assert_examples_hold, assert_refused, great_rows, modelled_row, one, small_rows,
    texts_up_to, wrong_rows,
)

EXAMPLES = r"""
>>> from shownshort.pairs import least_pair, number_shown
>>> from shownshort.samples import sample_row
>>> from shownshort.shorteners import Shortener
>>> [least_pair(sample_row()), least_pair((Shortener(2, 1, 0, "~"),)), least_pair((Shortener(3, 1, 1, ""),)), number_shown(sample_row(), 2), number_shown(sample_row(), 100)]
[('........', '.........'), ('.~', '...'), ('..', '....'), 1444, 79235168]
"""

GREATEST = (
    one(40, 40, 40, "~~~"), one(40, 40, 40, ""), one(40, 40, 0, ""), one(40, 0, 40, ""), one(40, 0, 0, ""),
    one(40, 0, 0, "~~~"), one(0, 40, 40, "~~~"), one(0, 40, 40, ""), one(0, 40, 0, "."), one(0, 0, 40, "."),
    one(40, 20, 17, "..."), one(40, 20, 20, ""), one(40, 40, 1, "a"), one(40, 1, 40, "a"), one(39, 40, 40, "0.0"),
)


def tried_pair(row, texts):
    """The first of these texts, which are in ascending order, that is shown like an earlier one, behind that one."""
    seen = {}
    for text in texts:
        shown = modelled_row(row, text)
        if shown in seen:
            return seen[shown], text
        seen[shown] = text
    return None


def few_signs(row):
    """The two smallest signs, one in the middle, and those of the marks, in ascending order."""
    return "".join(sorted({".", "0", "m", *"".join(shortener.mark for shortener in row)}))


def can_be_alike(begun, sources, others):
    """Whether some text that begins like this, shown by the first plan, is shown like some text by the other plan."""
    beside = {}
    links = [(("text", place), ("sign", sign)) for place, sign in enumerate(begun)]
    links += [
        (("text", one_part) if type(one_part) is int else ("sign", one_part),
         ("other", part) if type(part) is int else ("sign", part))
        for one_part, part in zip(sources, others)
    ]
    for part, other in links:
        beside.setdefault(part, []).append(other)
        beside.setdefault(other, []).append(part)
    left = {part for part in beside if part[0] == "sign"}
    while left:
        start = left.pop()
        reached, waiting = {start}, [start]
        while waiting:
            for part in beside[waiting.pop()]:
                if part not in reached:
                    reached.add(part)
                    waiting.append(part)
        if len([part for part in reached if part[0] == "sign"]) > 1:
            return False
    return True


def can_be_confused(row, begun, length):
    """Whether some text with this length that begins like this is shown like a smaller text."""
    sources = plan(row, length)
    if any(place not in sources and begun[place:place + 1] != "." for place in range(length)):
        return True
    shorter = [plan(row, less) for less in range(length)]
    return any(can_be_alike(begun, sources, others) for others in shorter if len(others) == len(sources))


def found_by_plans(row):
    """The smallest text that is shown like a smaller one, found sign by sign."""
    for length in itertools.count():
        if can_be_confused(row, "", length):
            begun = ""
            while len(begun) < length:
                begun += next(sign for sign in SIGNS if can_be_confused(row, begun + sign, length))
            return begun


class LeastPairTest(unittest.TestCase):
    def assert_pair(self, row, text, other):
        self.assertEqual(least_pair(row), (text, other), row)
        self.assertEqual(modelled_row(row, text), modelled_row(row, other), row)

    def test_examples(self):
        assert_examples_hold(self, EXAMPLES)

    def test_nothing_is_shown(self):
        self.assert_pair(one(0, 0, 0, ""), "", ".")
        self.assert_pair(one(1, 0, 0, ""), "", "..")
        self.assert_pair(one(40, 0, 0, ""), "", "." * 41)
        self.assert_pair((SHORT, Shortener(0, 0, 0, "")), "", ".")

    def test_only_the_mark_is_shown(self):
        self.assert_pair(one(0, 0, 0, "~"), ".", "0")
        self.assert_pair(one(0, 0, 0, "..."), ".", "0")
        self.assert_pair(one(1, 0, 0, "."), ".", "..")
        self.assert_pair(one(1, 0, 0, "a"), "a", "..")
        self.assert_pair(one(1, 0, 0, "ab"), "..", ".0")
        self.assert_pair(one(3, 0, 0, "ab"), "ab", "....")

    def test_a_whole_text_looks_like_a_shortened_one(self):
        self.assert_pair(ROW, "........", ".........")
        self.assert_pair(one(7, 3, 2, "..."), "........", ".....0..")
        self.assert_pair(one(8, 3, 2, "~~~"), "...~~~..", ".........")
        self.assert_pair(one(6, 2, 1, "~"), "..~.", ".......")
        self.assert_pair(one(2, 1, 0, "~"), ".~", "...")
        self.assert_pair(one(2, 0, 1, "~"), "~.", "...")

    def test_an_empty_mark(self):
        self.assert_pair(one(3, 1, 1, ""), "..", "....")
        self.assert_pair(one(3, 2, 2, ""), "....", ".....")
        self.assert_pair(one(4, 2, 2, ""), "....", ".....")
        self.assert_pair(one(0, 1, 0, ""), ".", "..")
        self.assert_pair(one(0, 0, 1, ""), ".", "..")
        self.assert_pair(one(4, 0, 3, ""), "...", ".....")

    def test_head_and_tail_overlap(self):
        self.assert_pair(one(2, 2, 2, ""), "...", "....")
        self.assert_pair(one(2, 3, 3, "~"), "...", "....")
        self.assert_pair(one(0, 1, 1, ""), ".", "..")
        self.assert_pair(one(3, 3, 3, "ab"), "....", ".....")

    def test_more_is_shown_than_the_limit_says(self):
        self.assert_pair(one(0, 2, 0, "~"), "..", "...")
        self.assert_pair(one(1, 40, 0, "."), "." * 40, "." * 41)
        self.assert_pair(one(2, 4, 1, "0"), "....", ".....")
        self.assert_pair(one(0, 40, 0, "~"), "." * 40, "." * 41)

    def test_the_smaller_text_needs_signs_of_a_mark(self):
        self.assert_pair(one(3, 1, 0, "ab"), ".ab", "....")
        self.assert_pair(one(5, 2, 1, "ab") + one(4, 2, 1, "~"), "..~.", ".....")

    def test_the_greater_text_needs_signs_of_a_mark(self):
        rows = (
            (one(1, 0, 5, "~") + one(1, 3, 5, "ab"), ("~~..", "~~~..")),
            (one(0, 4, 4, "b") + one(1, 4, 0, "b"), ("b.", "b.b")),
            (one(1, 5, 1, "ab") + one(1, 5, 0, "ab"), (".a", ".aab")),
            (one(4, 5, 1, "a") + one(3, 4, 3, "ab"), ("..a.", "..a..")),
            (one(1, 0, 5, "b") + one(1, 5, 5, ""), ("bbbb", "bbbbb")),
            (one(2, 5, 3, "a") + one(0, 4, 0, ""), ("...", "...a")),
        )
        for row, pair in rows:
            self.assert_pair(row, *pair)
            self.assertEqual(tried_pair(row, texts_up_to(5, few_signs(row))), pair)

    def test_shown_like_texts_of_several_lengths(self):
        rows = (
            (one(2, 1, 4, "~") + one(0, 5, 4, "~") + one(3, 2, 3, "ab") + one(1, 3, 1, "~"), (".~", "..~")),
            (one(3, 0, 3, "a") + one(5, 2, 0, "~") + one(0, 5, 1, "ab") + one(3, 4, 2, "a"), ("a.a", "..aa")),
            (one(0, 5, 4, "ab") + one(3, 3, 2, "a") + one(3, 1, 5, "ab") + one(2, 0, 4, "a"), (".a", "..a")),
        )
        for row, pair in rows:
            self.assert_pair(row, *pair)
            self.assertEqual(tried_pair(row, texts_up_to(4, few_signs(row))), pair)

    def test_all_signs_tried_for_up_to_two_signs(self):
        texts = list(texts_up_to(2))
        rows = [one(*told, mark) for told in itertools.product((0, 1, 2), repeat=3) for mark in ("", ".", "0", "~.", "aba")]
        rows += small_rows(random.Random(31), 300, 2, ("", ".", "0", "~", ".."))
        self.assert_as_tried(rows, texts, 2, 200)

    def test_all_signs_tried_for_up_to_three_signs(self):
        rows = [one(2, head, tail, mark) for head, tail in ((1, 1), (2, 1), (1, 0), (3, 3)) for mark in ("", "a")]
        self.assert_as_tried(rows, list(texts_up_to(3)), 3, 4)

    def test_few_signs_tried_for_up_to_five_signs(self):
        rows = [one(*told, mark) for told in itertools.product((0, 2, 4), (0, 1, 3), (0, 2, 3)) for mark in ("", "~", ".a")]
        rows += small_rows(random.Random(32), 250, 4, ("", "", ".", "0", "~", "..", ".~", "ab"))
        for signs in {few_signs(row) for row in rows}:
            texts = list(texts_up_to(5, signs))
            self.assert_as_tried([row for row in rows if few_signs(row) == signs], texts, 5, 1)

    def assert_as_tried(self, rows, texts, most, least_found):
        found = 0
        for row in rows:
            expected = tried_pair(row, texts)
            if expected is None:
                self.assertGreater(len(least_pair(row)[1]), most, row)
            else:
                found += 1
                self.assertEqual(least_pair(row), expected, row)
        self.assertGreaterEqual(found, least_found)

    def assert_least(self, row):
        """Check a pair by the plans: both texts are as small as they can be."""
        pair = least_pair(row)
        self.assertIs(type(pair), tuple)
        text, other = pair
        self.assertEqual(show(row, text), show(row, other), row)
        self.assertLess((len(text), text), (len(other), other), row)
        self.assertEqual(other, found_by_plans(row), row)
        self.assertEqual(text, self.smallest_shown_like(row, other), row)

    def smallest_shown_like(self, row, other):
        shown = modelled_row(row, other)
        for length in range(len(other) + 1):
            known = {}
            sources = plan(row, length)
            if len(sources) == len(shown):
                told = [
                    known.setdefault(source, sign) if type(source) is int else source
                    for source, sign in zip(sources, shown)
                ]
                if told == list(shown):
                    return "".join(known.get(place, ".") for place in range(length))

    def test_the_greatest_numbers(self):
        self.assert_pair(one(40, 40, 40, "~~~"), "." * 41, "." * 42)
        self.assert_pair(one(40, 40, 0, ""), "." * 40, "." * 41)
        self.assert_pair(one(40, 20, 17, "..."), "." * 40, "." * 41)
        self.assert_pair(one(40, 20, 17, "~~~"), "." * 20 + "~~~" + "." * 17, "." * 41)
        self.assert_pair(one(40, 0, 0, "~"), "~", "." * 41)
        for row in GREATEST:
            self.assert_least(row)

    def test_four_behind_one_another(self):
        for row in GREATEST:
            self.assert_least(row * 4)
        drawn = random.Random(33)
        for _ in range(40):
            self.assert_least(tuple(shortener for row in drawn.choices(GREATEST, k=4) for shortener in row))

    def test_rows_with_numbers_up_to_the_greatest(self):
        for row in great_rows(random.Random(34), 80):
            self.assert_least(row)

    def test_rows_with_numbers_in_the_middle(self):
        for row in small_rows(random.Random(35), 150, 12, ("", "~", ".", "0a", "~.~")):
            self.assert_least(row)

    def test_by_name_and_again(self):
        self.assertEqual(least_pair(row=ROW), ("........", "........."))
        self.assertEqual(least_pair(ROW), least_pair((Shortener(8, 3, 2, "..."),)))


class NumberShownTest(unittest.TestCase):
    def test_lengths_0_1_and_2_as_tried(self):
        rows = [one(*told, mark) for told in itertools.product((0, 1, 2), repeat=3) for mark in ("", ".", "a~")]
        rows += small_rows(random.Random(36), 60, 3, ("", ".", "0", "~~"))
        texts = [[text for text in texts_up_to(2) if len(text) == length] for length in (0, 1, 2)]
        for row in rows:
            for length in (0, 1, 2):
                expected = len({modelled_row(row, text) for text in texts[length]})
                self.assertEqual(number_shown(row, length), expected, (row, length))

    def test_the_empty_text(self):
        for row in (ROW, ROW * 4, one(0, 0, 0, ""), one(40, 40, 40, "~~~")):
            self.assertEqual(number_shown(row, 0), 1)

    def test_rows_that_show_nothing_of_a_text(self):
        for length in (1, 2, 8, 9, 200, 500):
            self.assertEqual(number_shown(one(0, 0, 0, ""), length), 1)
            self.assertEqual(number_shown(one(0, 0, 0, "~~~"), length), 1)
            self.assertEqual(number_shown((SHORT, Shortener(0, 0, 0, "a")), length), 1)
        self.assertEqual(number_shown(one(8, 0, 0, ""), 8), 38 ** 8)
        self.assertEqual(number_shown(one(8, 0, 0, ""), 9), 1)

    def test_rows_that_show_it_whole(self):
        for length in range(41):
            self.assertEqual(number_shown(one(40, 0, 0, ""), length), 38 ** length)
            self.assertEqual(number_shown(one(length, 1, 0, "~") * 4, length), 38 ** length)
        for length in range(81):
            self.assertEqual(number_shown(one(0, 40, 40, "~"), length), 38 ** length)

    def test_places_that_are_shown_twice_count_once(self):
        self.assertEqual(number_shown(one(2, 3, 3, "~"), 4), 38 ** 4)
        self.assertEqual(number_shown(one(0, 40, 40, ""), 7), 38 ** 7)
        self.assertEqual(number_shown(one(0, 2, 2, "") + one(0, 0, 3, ""), 3), 38 ** 2)

    def test_greater_lengths(self):
        told = {8: 38 ** 8, 9: 38 ** 5, 40: 38 ** 5, 41: 38 ** 5, 100: 79235168, 499: 38 ** 5, 500: 38 ** 5}
        for length, number in told.items():
            self.assertEqual(number_shown(ROW, length), number)
            self.assertEqual(number_shown(ROW * 4, length), number)
        for length in (80, 81, 200, 500):
            self.assertEqual(number_shown(one(40, 40, 40, "~~~"), length), 38 ** 80)
            self.assertEqual(number_shown(one(40, 40, 39, "~~~"), length), 38 ** 79)

    def test_each_place_that_is_shown_counts(self):
        drawn = random.Random(37)
        for row in great_rows(drawn, 200) + small_rows(drawn, 200, 9, ("", "~", "..")):
            for length in (3, 9, 40, 41, 79, 80, 81, 200, 500):
                # The model shows any characters: here a different one for each place, and none that a mark has.
                shown = modelled_row(row, "".join(chr(1000 + place) for place in range(length)))
                places = {character for character in shown if character not in SIGNS}
                self.assertEqual(number_shown(row, length), 38 ** len(places), (row, length))

    def test_by_name_and_again(self):
        self.assertEqual(number_shown(length=2, row=ROW), 1444)
        self.assertEqual(number_shown(ROW, length=2), number_shown(ROW, 2))
        self.assertIs(type(number_shown(ROW, 0)), int)


class RefusedTest(unittest.TestCase):
    def test_rows(self):
        for row, index in wrong_rows():
            with self.subTest(repr(row)):
                assert_refused(self, InvalidRow, "index", index, least_pair, row)
                assert_refused(self, InvalidRow, "index", index, least_pair, row=row)
                assert_refused(self, InvalidRow, "index", index, number_shown, row, 3)
                assert_refused(self, InvalidRow, "index", index, number_shown, length=3, row=row)

    def test_lengths(self):
        for length in NO_LENGTHS:
            with self.subTest(repr(length)):
                assert_refused(self, InvalidLength, "value", length, number_shown, ROW, length)
                assert_refused(self, InvalidLength, "value", length, number_shown, length=length, row=ROW)

    def test_the_row_is_looked_at_first(self):
        for row, index in ((None, None), ([SHORT], None), ((), None), (ROW * 5, None), ((SHORT, 1), 1), ((1, SHORT), 0)):
            for length in NO_LENGTHS:
                with self.subTest(repr(row), length=repr(length)):
                    assert_refused(self, InvalidRow, "index", index, number_shown, row, length)
                    assert_refused(self, InvalidRow, "index", index, number_shown, length=length, row=row)


if __name__ == "__main__":
    unittest.main()
