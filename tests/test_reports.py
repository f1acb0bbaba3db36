import random
import unittest

from shownshort.errors import InvalidLength, InvalidRow, InvalidViews
from shownshort.reports import plan_table, view_report
from shownshort.shorteners import Shortener, plan, show
from shownshort.views import least_text, lengths, only_text
from tests.helper import (
    NO_TEXTS, ROW, SHORT, assert_examples_hold, assert_refused, great_rows, one, small_rows, text_of, wrong_rows,
)

EXAMPLES = r"""
>>> from shownshort.reports import plan_table, view_report
>>> from shownshort.samples import sample_row
>>> from shownshort.shorteners import Shortener
>>> [plan_table((Shortener(2, 1, 1, "~"),), 4).split("\n"), view_report(((sample_row(), "abc...ij"),)).split("\n"), view_report(((sample_row(), "abcdefghi"),)).split("\n")]
[['0: ', '1: <0>', '2: <0><1>', '3: <0>~<2>', '4: <0>~<3>'], ['lengths: 8+', 'least: "abc...ij"', 'only: no'], ['lengths: -', 'least: -', 'only: no']]
"""

VIEW = (ROW, "abc...ij")
VIEWS = (VIEW,)
NO_MOSTS = (
    -1, 101, 102, 500, -100, 10 ** 19, True, False, None, "", "5", "abc", b"5", (), (5,), [], [5], {}, {5}, int, object(),
    SHORT,
)


class ExamplesTest(unittest.TestCase):
    def test_examples(self):
        assert_examples_hold(self, EXAMPLES)


class PlanTableTest(unittest.TestCase):
    def test_most_0(self):
        for row in (ROW, ROW * 4, one(0, 0, 0, "~")):
            self.assertEqual(plan_table(row, 0), "0: ")

    def test_most_1(self):
        self.assertEqual(plan_table(ROW, 1), "0: \n1: <0>")
        self.assertEqual(plan_table(one(0, 0, 0, ""), 1), "0: \n1: ")
        self.assertEqual(plan_table(one(0, 0, 0, "ab"), 1), "0: \n1: ab")
        self.assertEqual(plan_table(one(0, 1, 1, "0"), 1), "0: \n1: <0>0<0>")

    def test_most_100(self):
        told = plan_table(ROW, 100).split("\n")
        self.assertEqual(len(told), 101)
        self.assertEqual(told[8:10], ["8: <0><1><2><3><4><5><6><7>", "9: <0><1><2>...<7><8>"])
        self.assertEqual(told[100], "100: <0><1><2>...<98><99>")

    def test_marks_of_0_to_3_signs(self):
        for mark in ("", "~", ".0", "a.~"):
            self.assertEqual(plan_table(one(1, 1, 1, mark), 3), f"0: \n1: <0>\n2: <0>{mark}<1>\n3: <0>{mark}<2>")

    def test_several_behind_one_another(self):
        row = (SHORT, Shortener(6, 0, 4, "~"))
        self.assertEqual(plan_table(row, 9).split("\n")[6:], [
            "6: <0><1><2><3><4><5>", "7: ~<3><4><5><6>", "8: ~<4><5><6><7>", "9: ~..<7><8>",
        ])

    def test_as_planned(self):
        drawn = random.Random(71)
        for row in small_rows(drawn, 50, 9, ("", "~", "0a", "...")) + great_rows(drawn, 50):
            for most in (0, 1, drawn.randint(2, 99), 100):
                told = []
                for length in range(most + 1):
                    parts = ["<" + str(part) + ">" if type(part) is int else part for part in plan(row, length)]
                    told.append(str(length) + ": " + "".join(parts))
                self.assertEqual(plan_table(row, most), "\n".join(told))

    def test_by_name_and_again(self):
        self.assertEqual(plan_table(most=1, row=ROW), "0: \n1: <0>")
        self.assertEqual(plan_table(ROW, most=1), plan_table(ROW, 1))
        self.assertIs(type(plan_table(ROW, 1)), str)

    def test_no_rows(self):
        for row, index in wrong_rows():
            for most in (5, -1, 101, None, True):
                assert_refused(self, InvalidRow, "index", index, plan_table, row, most)
                assert_refused(self, InvalidRow, "index", index, plan_table, most=most, row=row)

    def test_no_lengths(self):
        for most in NO_MOSTS:
            with self.subTest(repr(most)):
                assert_refused(self, InvalidLength, "value", most, plan_table, ROW, most)
                assert_refused(self, InvalidLength, "value", most, plan_table, most=most, row=ROW)


class ViewReportTest(unittest.TestCase):
    def assert_told(self, views, *expected):
        told = view_report(views)
        self.assertIs(type(told), str)
        self.assertEqual(told, "\n".join(expected), views)

    def test_some_lengths_only(self):
        self.assert_told(((ROW, "abcd"),), "lengths: 4", 'least: "abcd"', "only: yes")
        row = one(5, 0, 0, "") + one(2, 0, 0, "~")
        self.assert_told(((row, "~"),), "lengths: 1,3,4,5", 'least: "~"', "only: no")
        self.assert_told(((row, "~"), (one(3, 0, 0, "a"), "a")), "lengths: 4,5", 'least: "...."', "only: no")

    def test_beyond_only(self):
        self.assert_told(VIEWS, "lengths: 8+", 'least: "abc...ij"', "only: no")
        two = ((one(5, 4, 0, "~"), "abcd~"), (one(5, 0, 4, "~"), "~defg"))
        self.assert_told(two, "lengths: 7+", 'least: "abcdefg"', "only: no")
        self.assert_told(((one(0, 0, 0, ""), ""),), "lengths: 0+", 'least: ""', "only: no")

    def test_both(self):
        self.assert_told(((one(9, 3, 2, "..."), "abc...ij"),), "lengths: 8,10+", 'least: "abc...ij"', "only: no")
        self.assert_told(((one(0, 3, 3, ""), "abaaba"),), "lengths: 3,5+", 'least: "aba"', "only: no")
        self.assert_told(
            ((one(0, 40, 40, ""), "ab" * 40),), "lengths: " + ",".join(str(length) for length in range(40, 80, 2)) + ",80+",
            'least: "' + "ab" * 20 + '"', "only: no",
        )

    def test_none(self):
        for views in (((ROW, "abcdefghi"),), ((ROW, "a"), (ROW, "b")), ((ROW, text_of(200)),)):
            self.assert_told(views, "lengths: -", "least: -", "only: no")

    def test_one_text_only(self):
        for text in ("a", "abcd", "abc...h", "."):
            self.assert_told(((ROW, text),), f"lengths: {len(text)}", f'least: "{text}"', "only: yes")
        self.assert_told(((one(40, 0, 0, ""), text_of(40)),), "lengths: 40", f'least: "{text_of(40)}"', "only: yes")

    def test_one_length_with_several_texts(self):
        row = one(4, 0, 0, "") + one(2, 0, 0, "~")
        views = ((row, "~"), (one(3, 0, 0, "a"), "a"))
        self.assert_told(views, "lengths: 4", 'least: "...."', "only: no")

    def test_an_empty_least_text(self):
        self.assert_told(((ROW, ""),), "lengths: 0", 'least: ""', "only: yes")
        self.assert_told(((one(10, 0, 0, ""), ""),), "lengths: 0,11+", 'least: ""', "only: no")

    def test_as_the_views_tell(self):
        drawn = random.Random(72)
        rows = small_rows(drawn, 60, 6, ("", "~", "a")) + great_rows(drawn, 30)
        for _ in range(300):
            text = "".join(drawn.choice("a~.") for _ in range(drawn.choice((0, 1, 3, 7, 41))))
            views = tuple((row, show(row, drawn.choice((text, text, text, "a")))) for row in drawn.choices(rows, k=drawn.randint(1, 4)))
            some, beyond = lengths(views)
            told = [str(length) for length in some] + ([] if beyond is None else [str(beyond) + "+"])
            least = least_text(views)
            self.assert_told(
                views, "lengths: " + (",".join(told) or "-"), "least: " + ("-" if least is None else '"' + least + '"'),
                "only: no" if only_text(views) is None else "only: yes",
            )

    def test_by_name_and_again(self):
        self.assertEqual(view_report(views=VIEWS), 'lengths: 8+\nleast: "abc...ij"\nonly: no')
        self.assertEqual(view_report(VIEWS), view_report(VIEWS))

    def test_no_views(self):
        for views in (
            None, 0, True, "", "abc", b"ab", [], [VIEW], {}, set(), SHORT, object(), (), VIEWS * 5, (None,) * 5, ROW * 5,
        ):
            with self.subTest(repr(views)):
                assert_refused(self, InvalidViews, "index", None, view_report, views)
                assert_refused(self, InvalidViews, "index", None, view_report, views=views)
        wrong_ones = [None, 0, "ab", [], list(VIEW), (), (ROW,), (ROW, "a", "a"), ("a", ROW), (SHORT, "a"), SHORT]
        wrong_ones += [(row, "abc") for row, _ in wrong_rows()] + [(ROW, text) for text in NO_TEXTS]
        for wrong in wrong_ones:
            for many in range(1, 5):
                for place in range(many):
                    views = VIEWS * place + (wrong,) + VIEWS * (many - place - 1)
                    assert_refused(self, InvalidViews, "index", place, view_report, views)
        assert_refused(self, InvalidViews, "index", 0, view_report, VIEW)
        assert_refused(self, InvalidViews, "index", 1, view_report, (VIEW, None, None))


if __name__ == "__main__":
    unittest.main()
