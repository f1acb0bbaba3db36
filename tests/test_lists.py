import itertools
import random
import unittest

from shownshort.alike import is_stable
from shownshort.errors import InvalidMark, InvalidRow, InvalidRule, InvalidTexts, InvalidWidth
from shownshort.lists import fitting, groups, member, narrowest, tells_apart, widths
from shownshort.shorteners import Shortener, show, widest
from tests.helper import (
    NAMER, NO_MARKS, NO_TEXTS, ODD, ROW, RULES, SHORT, SIGNS, assert_examples_hold, assert_refused, modelled, modelled_row, one,
    small_rows, text_of, wrong_rows,
)

EXAMPLES = r"""
>>> from shownshort.lists import fitting, groups, member, narrowest, tells_apart, widths
>>> texts = ("alpha1", "alpha2", "alpha10")
>>> [narrowest("end", "~", texts), narrowest("start", "~", texts), narrowest("middle", "~", texts), member("middle", "~", 6).told, groups((member("end", "~", 5),), texts), tells_apart((member("end", "~", 6),), texts)]
[6, 2, 3, (6, 3, 2, '~'), ((0, 1, 2),), True]
>>> [widths("end", "~", ("abcdefgh", "abcdefgi"))[:2], narrowest("end", "..", ("a" * 50, "a" * 51)), fitting("~", (("abcdef", "ab~ef"),)), fitting("", (("abcdef", "abc"), ("ab", "ab")))]
[(8, 9), None, (('middle', 5),), (('end', 3),)]
"""

KINDS = ("end", "start", "middle")
MARKS = ("", "~", ".", "ab", "..", "...", "a.~")
TEXTS = ("alpha1", "alpha2", "alpha10")
NO_KINDS = (
    "", "End", "END", "ends", "en", " end", "start ", "middle\n", "end start", "A" * 400, *RULES, b"end", b"", 0, 1, -1,
    10 ** 19, True, False, None, (), ("end",), KINDS, [], ["end"], list(KINDS), {}, {"end": "end"}, {"end"}, str, object(),
    SHORT, NAMER, ODD,
)
NO_WIDTHS = (
    -1, 41, 42, -40, 10 ** 19, -(10 ** 19), True, False, None, "", "8", b"8", (), (8,), [], [8], {}, {8: 8}, {8}, int,
    object(), SHORT,
)
NO_TUPLES = (None, 0, True, "", "abc", b"ab", [], ["a"], list(TEXTS), {}, {"a": "b"}, set(), {"a"}, object(), tuple, SHORT)


def told_of(kind, mark, width):
    """The four values of a member of a family, as the document says them."""
    head = tail = 0
    while head + len(mark) + tail < width:
        if kind == "end" or kind == "middle" and head <= tail:
            head += 1
        else:
            tail += 1
    return width, head, tail, mark


def family(kind, mark):
    return {width: told_of(kind, mark, width) for width in range(len(mark), 41)}


def pairs_shown_alike(row, texts):
    """All pairs of places of texts that are shown alike."""
    shown = [modelled_row(row, text) for text in texts]
    return [(one_place, place) for one_place, place in itertools.combinations(range(len(texts)), 2)
            if shown[one_place] == shown[place]]


def modelled_groups(row, texts):
    """The groups, put together from the pairs."""
    found = []
    for one_place, place in pairs_shown_alike(row, texts):
        group = next((group for group in found if one_place in group), None)
        if group is None:
            found.append([one_place, place])
        elif place not in group:
            group.append(place)
    return tuple(tuple(group) for group in found)


def modelled_widths(kind, mark, texts):
    """All widths for which no two different texts are shown alike."""
    return tuple(
        width for width, told in family(kind, mark).items()
        if not any(text != other and modelled(told, text) == modelled(told, other)
                   for text, other in itertools.combinations(texts, 2))
    )


def modelled_fitting(mark, seen):
    return tuple(
        (kind, width) for kind in KINDS for width, told in family(kind, mark).items()
        if not [text for text, shown in seen if modelled(told, text) != shown]
    )


def some_texts(drawn, many):
    """Texts that differ little: at the beginning, in the middle, at the end, or by a sign more."""
    stem = text_of(drawn.choice((0, 1, 3, 6, 12, 39, 40, 41, 60, 198)))
    texts = []
    for _ in range(many):
        at = drawn.choice((0, len(stem) // 2, len(stem)))
        texts.append(stem[:at] + drawn.choice(("", "a", "b", "~", "ab")) + stem[at:])
    return tuple(texts)


class MemberTest(unittest.TestCase):
    def test_examples(self):
        assert_examples_hold(self, EXAMPLES)

    def test_each_kind_mark_and_width(self):
        for kind, mark in itertools.product(KINDS, MARKS):
            for width in range(len(mark), 41):
                with self.subTest(kind, mark=mark, width=width):
                    short = member(kind, mark, width)
                    self.assertIs(type(short), Shortener)
                    self.assertEqual(short.told, told_of(kind, mark, width))
                    self.assertEqual((short.limit, short.mark), (width, mark))
                    self.assertEqual(short.head + len(mark) + short.tail, width)

    def test_head_and_tail(self):
        told = {
            ("end", "~", 6): (5, 0), ("start", "~", 6): (0, 5), ("middle", "~", 6): (3, 2), ("middle", "~", 7): (3, 3),
            ("end", "", 40): (40, 0), ("start", "", 40): (0, 40), ("middle", "", 40): (20, 20), ("middle", "", 39): (20, 19),
            ("end", "", 0): (0, 0), ("start", "", 0): (0, 0), ("middle", "", 0): (0, 0), ("middle", "", 1): (1, 0),
            ("end", "...", 3): (0, 0), ("start", "...", 4): (0, 1), ("middle", "...", 4): (1, 0), ("middle", "...", 5): (1, 1),
        }
        for given, expected in told.items():
            with self.subTest(given):
                short = member(*given)
                self.assertEqual((short.head, short.tail), expected)

    def test_no_member_shows_more_than_its_width_and_each_is_stable(self):
        for kind, mark in itertools.product(KINDS, MARKS):
            for width in range(len(mark), 41):
                row = (member(kind, mark, width),)
                self.assertEqual(widest(row), width)
                self.assertIs(is_stable(row), True)
                for length in (0, width, width + 1, 200):
                    self.assertEqual(len(show(row, text_of(length))), min(length, width))

    def test_by_name_and_again(self):
        self.assertEqual(member(width=6, kind="middle", mark="~").told, (6, 3, 2, "~"))
        self.assertEqual(member("middle", width=6, mark="~"), member("middle", "~", 6))


class GroupsTest(unittest.TestCase):
    def assert_grouped(self, row, texts, expected):
        told = groups(row, texts)
        self.assertEqual(told, expected, (row, texts))
        self.assertIs(type(told), tuple)
        self.assertEqual([type(group) for group in told], [tuple] * len(told))

    def test_none_one_and_twenty_texts(self):
        for texts in ((), ("a",), ("",), (text_of(200),)):
            self.assert_grouped(ROW, texts, ())
            self.assertIs(tells_apart(ROW, texts), True)
        texts = tuple(SIGNS[:20])
        self.assert_grouped(ROW, texts, ())
        self.assertIs(tells_apart(ROW, texts), True)
        self.assert_grouped(one(0, 0, 0, "~"), texts, (tuple(range(20)),))
        self.assertIs(tells_apart(one(0, 0, 0, "~"), texts), False)
        self.assert_grouped(ROW, ("a",) * 20, (tuple(range(20)),))
        self.assertIs(tells_apart(ROW, ("a",) * 20), True)

    def test_equal_texts_are_shown_alike_but_told_apart(self):
        self.assert_grouped(ROW, ("a", "b", "a"), ((0, 2),))
        self.assertIs(tells_apart(ROW, ("a", "b", "a")), True)
        self.assertIs(tells_apart(one(0, 0, 0, ""), ("a", "a", "a")), True)
        self.assert_grouped(one(0, 0, 0, ""), ("a", "a", "a"), ((0, 1, 2),))

    def test_texts_that_are_shown_alike_though_they_differ(self):
        texts = ("abcdefgij", "abc...ij", "abcd", "abcxyzij", "abcxyzzij", "abcd")
        self.assert_grouped(ROW, texts, ((0, 1, 4), (2, 5)))
        self.assertIs(tells_apart(ROW, texts), False)
        self.assertIs(tells_apart(ROW, texts[1:4]), True)
        self.assertIs(tells_apart(ROW, ("abcd", "abcd", "abcdefgij", "abc...ij")), False)
        self.assert_grouped(one(0, 0, 0, ""), ("", "a"), ((0, 1),))
        self.assertIs(tells_apart(one(0, 0, 0, ""), ("", "a")), False)

    def test_the_order_of_groups_and_places(self):
        row = one(0, 1, 0, "")
        self.assert_grouped(row, ("b", "a", "bb", "c", "ab", "ba"), ((0, 2, 5), (1, 4)))
        self.assert_grouped(row, ("z", "b", "a", "a", "b", "y", "z"), ((0, 6), (1, 4), (2, 3)))
        self.assert_grouped(row, ("c", "a", "b", "b", "a", "c", "~"), ((0, 5), (1, 4), (2, 3)))

    def test_rows_of_several(self):
        row = (SHORT, Shortener(0, 0, 1, ""))
        self.assert_grouped(row, ("abcdefghi", "i", "i.", "..i", "."), ((0, 1, 3), (2, 4)))

    def test_as_modelled(self):
        drawn = random.Random(41)
        told_apart = 0
        rows = small_rows(drawn, 200, 8, ("", "~", "a", "..")) + [ROW, ROW * 4, one(40, 40, 40, "~~~")]
        for row in rows:
            for many in (0, 1, 2, 5, 20):
                texts = some_texts(drawn, many)
                self.assert_grouped(row, texts, modelled_groups(row, texts))
                apart = all(texts[place] == texts[other] for place, other in pairs_shown_alike(row, texts))
                self.assertIs(tells_apart(row, texts), apart, (row, texts))
                told_apart += apart
        self.assertGreater(told_apart, 100)
        self.assertLess(told_apart, 900)

    def test_by_name_and_again(self):
        texts = ("a", "b", "a")
        self.assertEqual(groups(texts=texts, row=ROW), ((0, 2),))
        self.assertEqual(groups(ROW, texts=texts), groups(ROW, texts))
        self.assertIs(tells_apart(texts=texts, row=ROW), True)
        self.assertIs(tells_apart(ROW, texts=("abcdefgij", "abc...ij")), False)


class WidthsTest(unittest.TestCase):
    def assert_widths(self, kind, mark, texts, expected):
        told = widths(kind, mark, texts)
        self.assertEqual(told, expected, (kind, mark, texts))
        self.assertIs(type(told), tuple)
        self.assertEqual(narrowest(kind, mark, texts), expected[0] if expected else None)

    def test_no_texts_one_text_and_equal_ones(self):
        for kind, mark in itertools.product(KINDS, MARKS):
            for texts in ((), ("",), ("abc",), (text_of(200),), ("abc",) * 20, (text_of(200),) * 2):
                self.assert_widths(kind, mark, texts, tuple(range(len(mark), 41)))

    def test_texts_that_no_width_tells_apart(self):
        for kind, mark in itertools.product(KINDS, MARKS):
            self.assert_widths(kind, mark, ("a" * 50, "a" * 51), ())
            self.assert_widths(kind, mark, ("a" * 41 + "b" + "a" * 41, "a" * 41 + "c" + "a" * 41), ())
        self.assert_widths("end", "", (text_of(41), text_of(42)), ())
        self.assert_widths("start", "", ("a" + text_of(41), "b" + text_of(41)), ())
        self.assert_widths("end", "~", ("a", "b", "a" * 50, "a" * 51), ())

    def test_a_whole_text_looks_like_a_shortened_one(self):
        self.assert_widths("end", "~", ("ab~", "abcd"), tuple(range(4, 41)))
        self.assert_widths("start", "~", ("~cd", "abcd"), tuple(range(4, 41)))
        self.assert_widths("middle", "~", ("a~d", "abcd"), tuple(range(4, 41)))
        self.assert_widths("end", "", ("abc", "abcd"), tuple(range(4, 41)))
        self.assert_widths("middle", "", ("abba", "aba", "abcba"), tuple(range(5, 41)))

    def test_the_greatest_width_only(self):
        self.assert_widths("end", "", (text_of(39) + "a", text_of(39) + "b"), (40,))
        self.assert_widths("end", "~", (text_of(39) + "a", text_of(39) + "b"), (40,))
        self.assert_widths("end", "~", (text_of(39) + "aa", text_of(39) + "bb"), ())
        self.assert_widths("start", "", ("a" + text_of(39), "b" + text_of(39)), (40,))

    def test_the_smallest_width_of_a_family(self):
        self.assert_widths("end", "", ("", "a"), tuple(range(1, 41)))
        self.assert_widths("end", "ab", ("", "a"), tuple(range(2, 41)))
        self.assert_widths("end", "~", ("", "a"), tuple(range(1, 41)))
        self.assert_widths("end", "~", ("", "a", "ab"), tuple(range(1, 41)))
        self.assert_widths("end", "~", ("", "~", "ab"), tuple(range(2, 41)))

    def test_every_width_tried(self):
        drawn = random.Random(42)
        some = 0
        for kind, mark in itertools.product(KINDS, MARKS):
            for many in (1, 2, 2, 2, 3, 3, 3, 8, 20):
                texts = some_texts(drawn, many)
                expected = modelled_widths(kind, mark, texts)
                self.assert_widths(kind, mark, texts, expected)
                some += 0 < len(expected) < 41 - len(mark)
        self.assertGreater(some, 10)

    def test_by_name_and_again(self):
        self.assertEqual(widths(texts=TEXTS, mark="~", kind="end"), tuple(range(6, 41)))
        self.assertEqual(widths("end", texts=TEXTS, mark="~"), widths("end", "~", TEXTS))
        self.assertEqual(narrowest(texts=TEXTS, kind="middle", mark="~"), 3)
        self.assertEqual(narrowest("start", "~", texts=TEXTS), 2)


class FittingTest(unittest.TestCase):
    def test_no_pairs_at_all(self):
        for mark in MARKS:
            expected = tuple((kind, width) for kind in KINDS for width in range(len(mark), 41))
            told = fitting(mark, ())
            self.assertEqual(told, expected)
            self.assertIs(type(told), tuple)
            self.assertEqual({type(pair) for pair in told}, {tuple})

    def test_what_members_show(self):
        drawn = random.Random(43)
        for kind, mark in itertools.product(KINDS, MARKS):
            for width in (len(mark), len(mark) + 1, 5, 6, 12, 39, 40):
                row = (member(kind, mark, width),)
                for many in (1, 2, 20):
                    seen = tuple((text, show(row, text)) for text in some_texts(drawn, many))
                    told = fitting(mark, seen)
                    self.assertIn((kind, width), told)
                    self.assertEqual(told, modelled_fitting(mark, seen), seen)

    def test_one_shown_form_is_changed(self):
        drawn = random.Random(44)
        none = 0
        for kind, mark in itertools.product(KINDS, MARKS):
            for width in (len(mark), 6, 20, 40):
                row = (member(kind, mark, width),)
                seen = [(text, show(row, text)) for text in some_texts(drawn, drawn.choice((1, 3, 20)))]
                at = drawn.randrange(len(seen))
                text, shown = seen[at]
                for changed in (shown + "a", shown[1:], shown[:-1] + "m", "m" + shown[1:], text, ""):
                    told = fitting(mark, (*seen[:at], (text, changed), *seen[at + 1:]))
                    self.assertEqual(told, modelled_fitting(mark, (*seen[:at], (text, changed), *seen[at + 1:])))
                    none += told == ()
                    if changed != shown:
                        self.assertNotIn((kind, width), told)
        self.assertGreater(none, 50)

    def test_the_order(self):
        self.assertEqual(fitting("~", (("abc", "~"),)), (("end", 1), ("start", 1), ("middle", 1)))
        self.assertEqual(fitting("", (("aaa", "aa"),)), (("end", 2), ("start", 2), ("middle", 2)))
        self.assertEqual(
            fitting("", ((text_of(39), text_of(39)),)),
            tuple((kind, width) for kind in KINDS for width in (39, 40)),
        )
        self.assertEqual(fitting("~", (("abc", "a~"),)), (("end", 2), ("middle", 2)))

    def test_a_text_that_is_shown_whole_and_one_that_is_not(self):
        self.assertEqual(fitting("~", (("abcd", "abcd"), ("abcdef", "abc~f"))), ())
        self.assertEqual(fitting("~", (("abcd", "abcd"), ("abcdef", "ab~ef"))), (("middle", 5),))
        self.assertEqual(fitting("~", (("abcdef", "ab~ef"), ("abcdef", "abcdef"))), ())
        self.assertEqual(fitting("..", (("abcdefg", "abcd..g"),)), ())

    def test_texts_that_no_width_shows_whole(self):
        self.assertEqual(fitting("~", ((text_of(41), text_of(41)),)), ())
        self.assertEqual(fitting("", ((text_of(200), text_of(40)),)), (("end", 40),))
        self.assertEqual(fitting("", (("", ""),)), tuple((kind, width) for kind in KINDS for width in range(41)))

    def test_by_name_and_again(self):
        seen = (("abcdef", "ab~ef"),)
        self.assertEqual(fitting(seen=seen, mark="~"), (("middle", 5),))
        self.assertEqual(fitting("~", seen=seen), fitting("~", seen))


class RefusedTest(unittest.TestCase):
    def assert_kind_refused(self, kind, mark, texts, width):
        assert_refused(self, InvalidRule, "value", kind, member, kind, mark, width)
        assert_refused(self, InvalidRule, "value", kind, member, width=width, mark=mark, kind=kind)
        for call in (widths, narrowest):
            assert_refused(self, InvalidRule, "value", kind, call, kind, mark, texts)
            assert_refused(self, InvalidRule, "value", kind, call, texts=texts, mark=mark, kind=kind)

    def assert_mark_refused(self, mark, texts, width):
        for kind in KINDS:
            assert_refused(self, InvalidMark, "value", mark, member, kind, mark, width)
            assert_refused(self, InvalidMark, "value", mark, member, width=width, mark=mark, kind=kind)
            for call in (widths, narrowest):
                assert_refused(self, InvalidMark, "value", mark, call, kind, mark, texts)
                assert_refused(self, InvalidMark, "value", mark, call, texts=texts, mark=mark, kind=kind)
        assert_refused(self, InvalidMark, "value", mark, fitting, mark, texts)
        assert_refused(self, InvalidMark, "value", mark, fitting, seen=texts, mark=mark)

    def assert_texts_refused(self, texts, index):
        for call in (groups, tells_apart):
            assert_refused(self, InvalidTexts, "index", index, call, ROW, texts)
            assert_refused(self, InvalidTexts, "index", index, call, texts=texts, row=ROW)
        for call in (widths, narrowest):
            assert_refused(self, InvalidTexts, "index", index, call, "end", "~", texts)
            assert_refused(self, InvalidTexts, "index", index, call, texts=texts, mark="", kind="middle")

    def assert_seen_refused(self, seen, index):
        assert_refused(self, InvalidTexts, "index", index, fitting, "~", seen)
        assert_refused(self, InvalidTexts, "index", index, fitting, seen=seen, mark="")

    def test_kinds(self):
        for kind in NO_KINDS:
            with self.subTest(repr(kind)):
                self.assert_kind_refused(kind, "~", TEXTS, 6)
                self.assert_kind_refused(kind, "....", ["a"], -1)
                self.assert_kind_refused(kind, None, None, None)

    def test_marks(self):
        for mark in NO_MARKS:
            with self.subTest(repr(mark)):
                self.assert_mark_refused(mark, (), 6)
                self.assert_mark_refused(mark, ["a"], 41)
                self.assert_mark_refused(mark, None, None)

    def test_widths(self):
        for kind, mark in itertools.product(KINDS, MARKS):
            for width in (*NO_WIDTHS, *range(-3, len(mark))):
                with self.subTest(kind, mark=mark, width=repr(width)):
                    assert_refused(self, InvalidWidth, "value", width, member, kind, mark, width)
                    assert_refused(self, InvalidWidth, "value", width, member, width=width, mark=mark, kind=kind)

    def test_no_tuple_or_too_many(self):
        for texts in NO_TUPLES:
            with self.subTest(repr(texts)):
                self.assert_texts_refused(texts, None)
                self.assert_seen_refused(texts, None)
        for wrong in ("a", None, ("a", "a")):
            self.assert_texts_refused(("a",) * 20 + (wrong,), None)
            self.assert_texts_refused((wrong,) * 21, None)
            self.assert_seen_refused((("a", "a"),) * 20 + (wrong,), None)
            self.assert_seen_refused((wrong,) * 21, None)
        self.assert_seen_refused([("a", "a")], None)

    def test_a_wrong_text_at_each_place(self):
        for wrong in NO_TEXTS:
            with self.subTest(repr(wrong)):
                for many, place in ((1, 0), (2, 0), (2, 1), (20, 0), (20, 10), (20, 19)):
                    self.assert_texts_refused(("a",) * place + (wrong,) + ("a",) * (many - place - 1), place)
        for place in range(20):
            self.assert_texts_refused(("a",) * place + ("A",) + (None,) * (19 - place), place)

    def test_a_wrong_pair_at_each_place(self):
        pair = ("a", "a")
        wrong_ones = [
            None, 0, "ab", b"ab", [], ["a", "a"], {}, {"a": "a"}, {"a", "b"}, (), ("a",), ("a", "a", "a"), (("a", "a"),),
            ("a", ("a",)), object(), SHORT, *[(wrong, "a") for wrong in NO_TEXTS], *[("a", wrong) for wrong in NO_TEXTS],
        ]
        for wrong in wrong_ones:
            with self.subTest(repr(wrong)):
                for many, place in ((1, 0), (2, 0), (2, 1), (20, 0), (20, 19)):
                    self.assert_seen_refused((pair,) * place + (wrong,) + (pair,) * (many - place - 1), place)
        for place in range(20):
            self.assert_seen_refused((pair,) * place + (("a", "A"),) + (None,) * (19 - place), place)

    def test_200_signs_are_let_and_201_are_not(self):
        texts = (text_of(200), text_of(199))
        self.assertEqual(groups(ROW, texts), ())
        self.assertIs(tells_apart(ROW, texts), True)
        self.assertEqual(narrowest("start", "", texts), 1)
        self.assertEqual(fitting("", ((text_of(200), text_of(200)),)), ())
        self.assert_texts_refused((text_of(200), text_of(201)), 1)
        self.assert_seen_refused((("a", "a"), (text_of(201), "a")), 1)
        self.assert_seen_refused((("a", text_of(201)),), 0)

    def test_rows_are_looked_at_before_texts(self):
        for row, index in wrong_rows():
            for texts in (TEXTS, (), ["a"], ("A",), None):
                for call in (groups, tells_apart):
                    assert_refused(self, InvalidRow, "index", index, call, row, texts)
                    assert_refused(self, InvalidRow, "index", index, call, texts=texts, row=row)


if __name__ == "__main__":
    unittest.main()
