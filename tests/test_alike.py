import itertools
import random
import unittest

from shownshort.alike import are_alike, first_unlike, first_unstable, is_stable
from shownshort.errors import InvalidRow
from shownshort.shorteners import Shortener, plan
from tests.helper import (
    ROW, SHORT, SIGNS, assert_examples_hold, assert_refused, great_rows, modelled_row, one, small_rows, texts_up_to,
    wrong_rows,
)

EXAMPLES = r"""
>>> from shownshort.alike import are_alike, first_unlike, first_unstable, is_stable
>>> from shownshort.samples import sample_row
>>> from shownshort.shorteners import Shortener
>>> [first_unlike(sample_row(), (Shortener(8, 4, 1, "..."),)), first_unlike(sample_row(), (Shortener(7, 3, 2, "..."),)), are_alike(sample_row(), sample_row() * 2)]
['.......0.', '.....0..', True]
>>> [is_stable(sample_row()), first_unstable((Shortener(0, 2, 0, "~"),)), first_unlike((Shortener(5, 5, 0, ""),), (Shortener(9, 5, 0, ""),))]
[True, '.', '......']
"""

# Beyond all limits, and beyond all heads and tails together.
BEYOND = 130
# Changes nothing behind a row that shows at most 40 signs.
IDLE = Shortener(40, 0, 0, "abc")


def tried(texts, shown, others):
    """The first of the texts for which the shown forms differ."""
    return next((text for text, form, other in zip(texts, shown, others) if form != other), None)


def can_differ(begun, sources, others):
    """Whether some text that begins like this is shown differently by two plans for its length."""
    if len(sources) != len(others):
        return True
    for source, other in zip(sources, others):
        fixed = [begun[part] if type(part) is int and part < len(begun) else part for part in (source, other)]
        if fixed[0] != fixed[1]:
            return True
    return False


def by_plans(plan_for, other_plan_for):
    """The first text that is shown differently, found sign by sign from the plans for each length."""
    for length in range(BEYOND + 1):
        sources, others = plan_for(length), other_plan_for(length)
        if sources != others:
            begun = ""
            while len(begun) < length:
                begun += next(sign for sign in SIGNS if can_differ(begun + sign, sources, others))
            return begun
    return None


def plan_of_two(row, length):
    """The plan of a row that is applied twice."""
    once = plan(row, length)
    return tuple(once[source] if type(source) is int else source for source in plan(row, len(once)))


def changed(drawn, row):
    """The row with one number, one sign of a mark or one shortener changed, or one more."""
    at = drawn.randrange(len(row))
    told = list(row[at].told)
    way = drawn.randrange(6)
    if way < 3:
        told[way] = min(40, max(0, told[way] + drawn.choice((-1, 1))))
    elif way == 3 and told[3]:
        told[3] = drawn.choice(".0az~") + told[3][1:]
    elif way == 4 and len(row) < 4:
        return row[:at] + (drawn.choice((IDLE, row[at], Shortener(40, 40, 0, ""), Shortener(39, 0, 40, ""))),) + row[at:]
    elif len(row) > 1:
        return row[:at] + row[at + 1:]
    return row[:at] + (Shortener(*told),) + row[at + 1:]


class UnlikeTest(unittest.TestCase):
    def assert_unlike(self, row, other_row, text):
        self.assertEqual(first_unlike(row, other_row), text)
        self.assertEqual(first_unlike(other_row, row), text)
        self.assertIs(are_alike(row, other_row), text is None)
        self.assertIs(are_alike(other_row, row), text is None)
        if text is not None:
            self.assertNotEqual(modelled_row(row, text), modelled_row(other_row, text))

    def test_examples(self):
        assert_examples_hold(self, EXAMPLES)

    def test_a_row_is_like_itself(self):
        for row in [ROW, ROW * 4, one(0, 0, 0, ""), one(40, 40, 40, "~~~"), *great_rows(random.Random(1), 50)]:
            self.assert_unlike(row, row, None)
            self.assert_unlike(row, tuple(Shortener(*shortener.told) for shortener in row), None)

    def test_one_number_differs(self):
        self.assert_unlike(ROW, one(9, 3, 2, "..."), ".........")
        self.assert_unlike(ROW, one(7, 3, 2, "..."), ".....0..")
        self.assert_unlike(ROW, one(8, 2, 2, "..."), ".........")
        self.assert_unlike(ROW, one(8, 3, 3, "..."), ".........")
        self.assert_unlike(one(8, 0, 0, ""), one(8, 1, 0, ""), ".........")
        self.assert_unlike(one(4, 2, 3, ""), one(5, 2, 3, ""), None)
        self.assert_unlike(one(4, 2, 2, "."), one(5, 2, 2, "."), "..0..")
        self.assert_unlike(one(4, 2, 2, "0"), one(5, 2, 2, "0"), ".....")

    def test_one_sign_of_a_mark_differs(self):
        for mark in ("a..", ".a.", "..a", "..~"):
            self.assert_unlike(ROW, one(8, 3, 2, mark), ".........")
        self.assert_unlike(one(0, 1, 0, "~"), one(0, 1, 0, "z"), ".")
        self.assert_unlike(ROW, one(8, 3, 2, ".."), ".........")

    def test_a_mark_against_a_place(self):
        self.assert_unlike(one(2, 1, 0, "."), one(2, 2, 0, ""), ".0.")
        self.assert_unlike(one(2, 1, 0, "0"), one(2, 2, 0, ""), "...")
        self.assert_unlike(one(2, 0, 1, "."), one(2, 0, 2, ""), ".0.")
        self.assert_unlike(one(0, 0, 0, "."), one(0, 1, 0, ""), "0")
        self.assert_unlike(one(0, 0, 0, "~"), one(0, 1, 0, ""), ".")
        self.assert_unlike(one(0, 0, 0, ".."), one(0, 1, 1, ""), "0")

    def test_a_place_against_a_place(self):
        self.assert_unlike(one(0, 1, 0, ""), one(0, 0, 1, ""), ".0")
        self.assert_unlike(one(5, 1, 0, ""), one(5, 0, 1, ""), ".....0")
        self.assert_unlike(one(5, 3, 0, ""), one(5, 2, 1, ""), ".....0")
        self.assert_unlike(one(3, 1, 2, ""), one(3, 2, 1, ""), "..0.")

    def test_one_shortener_more(self):
        self.assert_unlike(ROW, (SHORT, Shortener(7, 7, 0, "")), "........")
        self.assert_unlike(ROW, (SHORT, Shortener(7, 8, 0, "")), None)
        self.assert_unlike(ROW, (SHORT, Shortener(8, 0, 0, "")), None)
        self.assert_unlike(ROW, (Shortener(8, 0, 0, ""), SHORT), ".........")
        self.assert_unlike(one(0, 2, 0, "~"), one(0, 2, 0, "~") * 2, ".")
        self.assert_unlike(one(3, 1, 1, "") * 3, one(3, 1, 1, "") * 4, None)

    def test_a_shortener_that_changes_nothing(self):
        self.assert_unlike(ROW, (SHORT, IDLE), None)
        self.assert_unlike(ROW, (SHORT, IDLE, IDLE, IDLE), None)
        self.assert_unlike((IDLE, SHORT), (IDLE, IDLE, SHORT), None)
        self.assert_unlike(one(40, 40, 0, ""), (Shortener(40, 40, 0, ""), IDLE), None)
        self.assert_unlike(one(40, 40, 1, ""), (Shortener(40, 40, 1, ""), IDLE), "." * 41)

    def test_alike_though_their_numbers_differ(self):
        self.assert_unlike(one(5, 5, 0, ""), one(4, 5, 0, ""), None)
        self.assert_unlike(one(0, 5, 0, ""), one(5, 5, 0, ""), None)
        self.assert_unlike(one(0, 0, 7, ""), one(7, 0, 7, ""), None)
        self.assert_unlike(one(2, 1, 2, ""), one(3, 1, 2, ""), None)
        self.assert_unlike((SHORT, Shortener(0, 2, 0, "")), one(0, 2, 0, ""), None)
        self.assert_unlike(one(40, 40, 40, "") + one(0, 0, 0, "a"), one(0, 0, 0, "a"), None)

    def test_numbers_0_and_40(self):
        self.assert_unlike(one(0, 0, 0, ""), one(1, 0, 0, ""), ".")
        self.assert_unlike(one(0, 40, 0, ""), one(40, 40, 0, ""), None)
        self.assert_unlike(one(40, 0, 40, ""), one(39, 0, 40, ""), None)
        self.assert_unlike(one(40, 40, 0, ""), one(40, 0, 40, ""), "." * 40 + "0")
        self.assert_unlike(one(40, 0, 0, ""), one(39, 0, 0, ""), "." * 40)
        self.assert_unlike(one(40, 40, 40, ""), one(40, 40, 39, ""), "." * 41)
        self.assert_unlike(one(0, 40, 40, ""), one(1, 40, 40, ""), ".")
        self.assert_unlike(one(40, 0, 0, "."), one(40, 1, 0, ""), "0" + "." * 40)

    def test_head_and_tail_meet_for_one_length_beyond_the_limits(self):
        self.assert_unlike(one(40, 2, 0, ""), (Shortener(40, 1, 40, ""), Shortener(40, 2, 0, "")), "..0" + "." * 39)

    def test_all_signs_tried_for_up_to_two_signs(self):
        texts = list(texts_up_to(2))
        drawn = random.Random(2)
        rows = [one(*told, mark) for told in itertools.product((0, 1, 2), (0, 1), (0, 1, 2)) for mark in ("", ".", "0")]
        rows += small_rows(drawn, 60, 2, ("", ".", "0", "~", ".."))
        shown = [[modelled_row(row, text) for text in texts] for row in rows]
        for (row, forms), (other, other_forms) in itertools.product(list(zip(rows, shown)), repeat=2):
            self.assert_as_tried(first_unlike(row, other), tried(texts, forms, other_forms), 2, (row, other))

    def test_all_signs_tried_for_up_to_three_signs(self):
        texts = list(texts_up_to(3))
        rows = [one(2, 1, 1, ""), one(2, 1, 1, "."), one(2, 2, 0, "."), one(3, 1, 1, ""), one(2, 3, 0, ""), one(2, 1, 1, "~")]
        shown = [[modelled_row(row, text) for text in texts] for row in rows]
        for (row, forms), (other, other_forms) in itertools.product(list(zip(rows, shown)), repeat=2):
            self.assert_as_tried(first_unlike(row, other), tried(texts, forms, other_forms), 3, (row, other))

    def test_three_signs_tried_for_up_to_six_signs(self):
        texts = list(texts_up_to(6, ".0~"))
        rows = small_rows(random.Random(3), 100, 5, ("", "", ".", "0", "~", "..", ".~"))
        shown = [[modelled_row(row, text) for text in texts] for row in rows]
        for (row, forms), (other, other_forms) in itertools.product(list(zip(rows, shown)), repeat=2):
            self.assert_as_tried(first_unlike(row, other), tried(texts, forms, other_forms), 6, (row, other))

    def assert_as_tried(self, found, expected, most, told):
        if expected is None and found is not None:
            self.assertGreater(len(found), most, told)
        else:
            self.assertEqual(found, expected, told)

    def test_the_plans_for_all_lengths(self):
        drawn = random.Random(4)
        rows = great_rows(drawn, 500)
        alike = 0
        for row in rows:
            for other in (changed(drawn, row), changed(drawn, changed(drawn, row)), drawn.choice(rows)):
                expected = by_plans(lambda length: plan(row, length), lambda length: plan(other, length))
                alike += expected is None
                self.assert_unlike(row, other, expected)
        self.assertGreater(alike, 100)
        self.assertLess(alike, 1000)

    def test_by_name_and_again(self):
        other = one(8, 4, 1, "...")
        self.assertEqual(first_unlike(other_row=other, row=ROW), ".......0.")
        self.assertEqual(first_unlike(ROW, other_row=other), first_unlike(ROW, other))
        self.assertIs(are_alike(other_row=other, row=ROW), False)
        self.assertIs(are_alike(row=ROW, other_row=ROW * 2), True)
        self.assertIs(type(first_unlike(ROW, other)), str)


class UnstableTest(unittest.TestCase):
    def assert_unstable(self, row, text):
        self.assertEqual(first_unstable(row), text)
        self.assertIs(is_stable(row), text is None)
        if text is not None:
            shown = modelled_row(row, text)
            self.assertNotEqual(modelled_row(row, shown), shown)

    def test_stable_ones(self):
        for row in (
            ROW, ROW * 4, one(0, 0, 0, ""), one(1, 0, 0, "~"), one(5, 5, 0, ""), one(4, 5, 0, ""), one(0, 40, 0, ""),
            one(7, 3, 2, "..."), one(4, 3, 3, "~"), one(0, 1, 1, ""), one(0, 1, 0, "~"), one(40, 40, 40, "~"),
            one(0, 0, 40, ""), one(40, 20, 17, "..."), one(40, 0, 0, ""), (SHORT, IDLE), one(3, 0, 0, "abc"), one(0, 0, 0, "abc"),
        ):
            with self.subTest(row):
                self.assert_unstable(row, None)

    def test_unstable_ones(self):
        self.assert_unstable(one(0, 2, 0, "~"), ".")
        self.assert_unstable(one(0, 0, 40, "~"), ".")
        self.assert_unstable(one(2, 4, 0, "~"), "...")
        self.assert_unstable(one(2, 4, 1, ""), "...")
        self.assert_unstable(one(2, 0, 4, "."), "...")
        self.assert_unstable(one(39, 40, 40, ""), None)
        self.assert_unstable(one(38, 40, 40, ""), "." * 39)
        self.assert_unstable(one(0, 1, 40, "~"), ".")

    def test_rows_of_several(self):
        self.assert_unstable((Shortener(3, 1, 1, "~"), Shortener(2, 0, 2, "")), None)
        self.assert_unstable((SHORT, Shortener(6, 0, 4, "~")), None)
        # Two signs change their places.
        self.assert_unstable(one(0, 2, 2, "") + one(0, 0, 3, "") + one(0, 2, 0, ""), ".0")
        # The mark comes to stand where a sign of the text stood.
        self.assert_unstable(one(0, 1, 0, "") + one(0, 0, 1, "."), "0")
        self.assert_unstable(one(0, 1, 0, "") + one(0, 0, 1, "a"), ".")
        self.assert_unstable(one(40, 40, 1, "") + one(40, 0, 40, "") + one(39, 40, 1, ""), "." * 39 + "0")
        self.assert_unstable((SHORT, Shortener(6, 0, 4, "~"), Shortener(0, 2, 2, "")), ".")
        self.assert_unstable((Shortener(0, 2, 0, ""), Shortener(0, 0, 2, "~")), ".")
        self.assert_unstable((SHORT,) * 3 + (Shortener(0, 0, 1, "~"),), None)

    def test_all_signs_tried_for_up_to_two_signs(self):
        texts = list(texts_up_to(2))
        rows = [one(*told, mark) for told in itertools.product((0, 1, 2), repeat=3) for mark in ("", ".", "0", "~.")]
        self.assert_as_tried(rows + small_rows(random.Random(5), 200, 2, ("", ".", "0", "~", "..")), texts, 2)

    def test_all_signs_tried_for_up_to_three_signs(self):
        rows = [one(2, 2, 1, "."), one(2, 1, 2, ""), one(2, 1, 1, "0"), one(3, 1, 1, ""), one(2, 2, 2, "")]
        self.assert_as_tried(rows, list(texts_up_to(3)), 3)

    def test_three_signs_tried_for_up_to_six_signs(self):
        rows = small_rows(random.Random(6), 500, 5, ("", "", ".", "0", "~", "..", ".~"))
        self.assert_as_tried(rows, list(texts_up_to(6, ".0~")), 6)

    def assert_as_tried(self, rows, texts, most):
        for row in rows:
            shown = (modelled_row(row, text) for text in texts)
            expected = next((text for text, form in zip(texts, shown) if modelled_row(row, form) != form), None)
            found = first_unstable(row)
            if expected is None and found is not None:
                self.assertGreater(len(found), most, row)
            else:
                self.assertEqual(found, expected, row)
            self.assertIs(is_stable(row), found is None)

    def test_the_plans_for_all_lengths(self):
        rows = great_rows(random.Random(7), 800)
        rows += [one(limit, head, 40 - head, "") for limit in (0, 20, 39, 40) for head in range(41)]
        stable = 0
        for row in rows:
            expected = by_plans(lambda length: plan(row, length), lambda length: plan_of_two(row, length))
            stable += expected is None
            self.assert_unstable(row, expected)
        self.assertGreater(stable, 100)
        self.assertLess(stable, 800)

    def test_by_name_and_again(self):
        self.assertEqual(first_unstable(row=one(0, 2, 0, "~")), ".")
        self.assertEqual(first_unstable(one(0, 2, 0, "~")), first_unstable(one(0, 2, 0, "~")))
        self.assertIs(is_stable(row=ROW), True)
        self.assertIs(is_stable(row=one(0, 2, 0, "~")), False)


class RefusedTest(unittest.TestCase):
    def assert_row_refused(self, row, index):
        for call in (first_unlike, are_alike):
            assert_refused(self, InvalidRow, "index", index, call, row, ROW)
            assert_refused(self, InvalidRow, "index", index, call, ROW, row)
            assert_refused(self, InvalidRow, "index", index, call, other_row=row, row=ROW)
            assert_refused(self, InvalidRow, "index", index, call, row, row)
        for call in (first_unstable, is_stable):
            assert_refused(self, InvalidRow, "index", index, call, row)
            assert_refused(self, InvalidRow, "index", index, call, row=row)

    def test_rows(self):
        for row, index in wrong_rows():
            with self.subTest(repr(row)):
                self.assert_row_refused(row, index)

    def test_of_two_wrong_rows_the_first_one(self):
        wrong = {None: [SHORT], 0: (1,), 1: (SHORT, None), 2: ROW * 2 + ("a", 1), 3: ROW * 3 + (ROW,)}
        for (index, row), (_, other) in itertools.permutations(wrong.items(), 2):
            for call in (first_unlike, are_alike):
                with self.subTest(repr(row), other=repr(other)):
                    assert_refused(self, InvalidRow, "index", index, call, row, other)
                    assert_refused(self, InvalidRow, "index", index, call, other_row=other, row=row)


if __name__ == "__main__":
    unittest.main()
