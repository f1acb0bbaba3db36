import itertools
import random
import unittest

from shownshort.errors import InvalidLength, InvalidViews
from shownshort.shorteners import Shortener, plan, show, widest
from shownshort.views import least_text, lengths, number_of, only_text, signs
from tests.helper import (
    NO_LENGTHS, NO_TEXTS, ROW, SHORT, SIGNS, assert_examples_hold, assert_refused, modelled_row, one, small_rows,
    text_of, texts_up_to, wrong_rows,
)

EXAMPLES = r"""
>>> from shownshort.samples import sample_row
>>> from shownshort.shorteners import Shortener
>>> from shownshort.views import least_text, lengths, number_of, only_text, signs
>>> one = ((sample_row(), "abc...ij"),)
>>> [lengths(one), signs(one, 8), signs(one, 10), number_of(one, 9), only_text(one), lengths(((sample_row(), "abcd"),)), only_text(((sample_row(), "abcd"),))]
[((), 8), 'abc...ij', 'abc?????ij', 2085136, None, ((4,), None), 'abcd']
>>> two = (((Shortener(5, 4, 0, "~"),), "abcd~"), ((Shortener(5, 0, 4, "~"),), "~defg"))
>>> [lengths(two), signs(two, 7), signs(two, 9), least_text(two), lengths((two[0], (sample_row(), "abcdxyz")))]
[((), 7), 'abcdefg', 'abcd?defg', 'abcdefg', ((7,), None)]
"""

WITHOUT_LENGTH = (lengths, only_text, least_text)
WITH_LENGTH = (signs, number_of)
VIEW = (ROW, "abc...ij")
VIEWS = (VIEW,)


def told_by(possible):
    """The pair that tells these lengths, of which the last one stands for all greater ones."""
    if not possible[-1]:
        return tuple(length for length, fits in enumerate(possible) if fits), None
    beyond = min(length for length in range(len(possible)) if all(possible[length:]))
    return tuple(length for length in range(beyond) if possible[length]), beyond


def shared_signs(texts):
    """At each place the sign that all the texts have there, or `?`."""
    if not texts:
        return None
    return "".join(column[0] if len(set(column)) == 1 else "?" for column in zip(*texts))


def modelled_signs(views, length):
    """What the plans leave of all signs at each place."""
    left = [set(SIGNS) for _ in range(length)]
    for row, shown in views:
        sources = plan(row, length)
        if len(sources) != len(shown):
            return None
        for source, sign in zip(sources, shown):
            if type(source) is int:
                left[source] &= {sign}
            elif source != sign:
                return None
    if not all(left):
        return None
    return "".join(min(some) if len(some) == 1 else "?" for some in left)


class Tried:
    """All texts of few signs, and how each row shows them."""

    def __init__(self, texts, rows, alphabet):
        self.texts = texts
        self.alphabet = alphabet
        self.most = len(texts[-1])
        self.places = [[at for at, text in enumerate(texts) if len(text) == length] for length in range(self.most + 1)]
        self.rows = rows
        self.shown = {id(row): [modelled_row(row, text) for text in texts] for row in rows}

    def fitting(self, views):
        columns = [self.shown[id(row)] for row, _ in views]
        wanted = tuple(shown for _, shown in views)
        return [text for text, forms in zip(self.texts, zip(*columns)) if forms == wanted]

    def some_place(self, drawn):
        """The place of a text; each length is drawn as often as any other one."""
        length = drawn.randint(0, self.most)
        return drawn.choice(self.places[length])

    def some_views(self, drawn, many):
        """Views of one text, of several texts, and such as no text gives."""
        at = self.some_place(drawn)
        views = []
        for _ in range(many):
            row = drawn.choice(self.rows)
            if drawn.random() < 0.1:
                at = self.some_place(drawn)
            shown = self.shown[id(row)][at]
            if drawn.random() < 0.1:
                shown = "".join(drawn.choice(self.alphabet) for _ in range(drawn.randint(0, 5)))
            views.append((row, shown))
        return tuple(views)


class ExamplesTest(unittest.TestCase):
    def test_examples(self):
        assert_examples_hold(self, EXAMPLES)


class LengthsTest(unittest.TestCase):
    def test_shown_whole(self):
        self.assertEqual(lengths(((ROW, "abcd"),)), ((4,), None))
        self.assertEqual(lengths(((ROW, "abcdefgh"),)), ((8,), None))
        self.assertEqual(lengths(((ROW, ""),)), ((0,), None))
        self.assertEqual(lengths(((one(40, 0, 0, "~"), text_of(40)),)), ((40,), None))

    def test_shown_cut(self):
        self.assertEqual(lengths(((one(9, 3, 2, "..."), "abc...ij"),)), ((8,), 10))
        self.assertEqual(lengths(((one(7, 3, 2, "..."), "abc...ij"),)), ((), 8))
        self.assertEqual(lengths(((one(5, 2, 0, "~"), "ab~"),)), ((3,), 6))
        self.assertEqual(lengths(((one(2, 0, 2, "~"), "~ab"),)), ((), 3))
        self.assertEqual(lengths(((one(3, 0, 2, "~"), "~ab"),)), ((), 3))

    def test_shown_empty(self):
        self.assertEqual(lengths(((one(0, 0, 0, ""), ""),)), ((), 0))
        self.assertEqual(lengths(((one(10, 0, 0, ""), ""),)), ((0,), 11))
        self.assertEqual(lengths(((one(40, 0, 0, ""), ""),)), ((0,), 41))
        self.assertEqual(lengths(((one(10, 0, 0, "~"), ""),)), ((0,), None))

    def test_such_as_no_text_gives(self):
        for views in (
            ((ROW, "abcdefghi"),), ((one(7, 3, 2, "..."), "abc~..ij"),), ((one(0, 1, 0, "~"), "ab"),),
            ((ROW, text_of(200)),), ((one(0, 40, 40, "~"), text_of(200)),), ((one(0, 1, 1, ""), "a"),),
            ((ROW, "abc"), (ROW, "abd")), ((ROW, "abc"), (one(0, 1, 0, ""), "b")),
        ):
            with self.subTest(views):
                self.assertEqual(lengths(views), ((), None))

    def test_head_and_tail_overlap(self):
        twice = ((one(0, 3, 3, ""), "abaaba"),)
        self.assertEqual(lengths(twice), ((3,), 5))
        self.assertEqual([signs(twice, length) for length in range(3, 8)], ["aba", None, "ababa", "abaaba", "aba?aba"])
        self.assertEqual(lengths(((one(0, 3, 3, ""), "aaaaaa"),)), ((), 3))
        self.assertEqual(lengths(((one(0, 3, 3, ""), "abcdef"),)), ((), 6))
        self.assertEqual(lengths(((one(0, 40, 40, ""), "ab" * 40),)), (tuple(range(40, 80, 2)), 80))
        self.assertEqual(lengths(((one(0, 40, 40, ""), "a" * 79 + "b"),)), ((), 41))
        self.assertEqual(lengths(((one(0, 40, 40, ""), "a" * 41 + "b" * 39),)), ((), 79))
        self.assertEqual(lengths(((one(0, 40, 40, ""), "a" * 40 + "b" * 40),)), ((), 80))

    def test_only_some_lengths(self):
        row = one(5, 0, 0, "") + one(2, 0, 0, "~")
        self.assertEqual(lengths(((row, "~"),)), ((1, 3, 4, 5), None))
        self.assertEqual(lengths(((row, "~"), (one(3, 0, 0, "a"), "a"))), ((4, 5), None))
        self.assertEqual(lengths(((row, "~"), (ROW, "abcd"))), ((4,), None))
        self.assertEqual(lengths(((row, ""),)), ((0,), 6))
        self.assertEqual(lengths(((one(20, 1, 0, "") + one(1, 0, 0, "~"), "~"),)), ((), 1))
        self.assertEqual(lengths(((one(20, 1, 0, "") + one(1, 0, 0, "z"), "~"),)), ((1,), 21))

    def test_several_views(self):
        above = (one(30, 0, 0, ""), "")
        self.assertEqual(lengths((above,)), ((0,), 31))
        self.assertEqual(lengths((above, (one(35, 0, 0, ""), ""))), ((0,), 36))
        self.assertEqual(lengths((above, (one(0, 1, 0, ""), "a"))), ((), 31))
        self.assertEqual(lengths((above, (one(35, 0, 0, "") + one(0, 0, 0, "~"), "~"))), (tuple(range(31, 36)), None))
        self.assertEqual(lengths(((one(0, 2, 0, ""), "ab"), (one(0, 0, 2, ""), "ba"))), ((), 3))
        self.assertEqual(lengths(((one(0, 2, 0, ""), "ab"), (one(0, 0, 2, ""), "ab"))), ((2,), 4))
        self.assertEqual(lengths(((one(0, 2, 0, ""), "ab"),) * 4), ((), 2))

    def test_kinds(self):
        for views in (VIEWS, ((ROW, "abcd"),), ((ROW, "abcdefghi"),)):
            told = lengths(views)
            self.assertIs(type(told), tuple)
            self.assertEqual(len(told), 2)
            self.assertIs(type(told[0]), tuple)


class SignsTest(unittest.TestCase):
    def test_around_the_limits(self):
        views = ((one(9, 3, 2, "..."), "abc...ij"),)
        told = {7: None, 8: "abc...ij", 9: None, 10: "abc?????ij", 11: "abc??????ij"}
        for length, expected in told.items():
            self.assertEqual(signs(views, length), expected)
            self.assertEqual(number_of(views, length), 38 ** expected.count("?") if expected else 0)

    def test_length_0(self):
        self.assertEqual(signs(((ROW, ""),), 0), "")
        self.assertEqual(number_of(((ROW, ""),), 0), 1)
        self.assertIsNone(signs(VIEWS, 0))
        self.assertEqual(number_of(VIEWS, 0), 0)
        self.assertIsNone(signs(((ROW, "a"),), 0))
        self.assertEqual(number_of(((one(0, 1, 1, "~"), "~"),), 0), 0)

    def test_length_500(self):
        self.assertEqual(signs(VIEWS, 500), "abc" + "?" * 495 + "ij")
        self.assertEqual(number_of(VIEWS, 500), 38 ** 495)
        self.assertEqual(signs(((one(0, 0, 0, ""), ""),), 500), "?" * 500)
        self.assertEqual(number_of(((one(0, 0, 0, ""), ""),), 500), 38 ** 500)
        self.assertIsNone(signs(((ROW, "abcd"),), 500))
        self.assertEqual(number_of(((ROW, "abcd"),), 500), 0)

    def test_places_that_are_left_open(self):
        two = ((one(5, 4, 0, "~"), "abcd~"), (one(5, 0, 4, "~"), "~defg"))
        told = [None, None, "abcdefg", "abcddefg", "abcd?defg", "abcd??defg"]
        self.assertEqual([signs(two, length) for length in range(5, 11)], told)
        self.assertEqual([number_of(two, length) for length in range(5, 11)], [0, 0, 1, 1, 38, 1444])

    def test_all_of_four_views_tell_something(self):
        views = (
            (one(0, 1, 0, ""), "a"), (one(0, 0, 1, ""), "d"), (one(0, 2, 0, "") + one(0, 0, 1, ""), "b"),
            (one(0, 0, 2, "") + one(0, 1, 0, ""), "c"),
        )
        self.assertEqual([signs(views, length) for length in (3, 4, 5, 6)], [None, "abcd", "ab?cd", "ab??cd"])
        self.assertEqual(lengths(views), ((), 4))
        self.assertEqual(signs(views[1:], 4), "?bcd")
        self.assertEqual(signs(views[:3], 4), "ab?d")

    def test_kinds(self):
        self.assertIs(type(signs(VIEWS, 9)), str)
        self.assertIs(type(number_of(VIEWS, 9)), int)
        self.assertIs(type(number_of(VIEWS, 7)), int)


class TextTest(unittest.TestCase):
    def test_just_one(self):
        for shown in ("", "a", "abcd", "abc...h", text_of(7)):
            self.assertEqual(only_text(((ROW, shown),)), shown)
            self.assertEqual(least_text(((ROW, shown),)), shown)
        self.assertEqual(only_text(((one(40, 0, 0, ""), text_of(40)),)), text_of(40))
        above = (one(3, 0, 0, "a"), "a")
        row = one(4, 0, 0, "") + one(2, 0, 0, "~")
        self.assertEqual(lengths(((row, "~"), above)), ((4,), None))
        self.assertIsNone(only_text(((row, "~"), above)))
        self.assertEqual(only_text(((row, "~"), above, (one(0, 2, 2, ""), "abcd"))), "abcd")
        self.assertIsNone(only_text(((row, "~"), above, (one(0, 2, 1, ""), "abd"))))

    def test_several_lengths_with_one_text_each(self):
        row = one(4, 0, 0, "") + one(2, 0, 0, "~")
        views = ((row, "~"), (one(0, 2, 2, ""), "aaaa"), (one(0, 4, 0, "") + one(2, 0, 0, ""), ""))
        self.assertEqual(lengths(views), ((3, 4), None))
        self.assertEqual([number_of(views, 3), number_of(views, 4)], [1, 1])
        self.assertIsNone(only_text(views))
        self.assertEqual(least_text(views), "aaa")

    def test_all_lengths_from_one_on(self):
        self.assertIsNone(only_text(VIEWS))
        self.assertIsNone(only_text(((one(0, 0, 0, ""), ""),)))
        self.assertEqual(least_text(VIEWS), "abc...ij")
        self.assertEqual(least_text(((one(0, 0, 0, ""), ""),)), "")
        self.assertEqual(least_text(((one(8, 3, 2, "~"), "abc~ij"),)), "abc~ij")
        self.assertEqual(least_text(((one(8, 3, 2, "~"), "abc~ij"), (one(6, 0, 0, ""), ""))), "abc....ij")
        self.assertEqual(least_text(((one(40, 2, 1, ""), "abz"), (one(3, 0, 0, ""), ""))), "ab" + "." * 38 + "z")

    def test_none(self):
        for views in (((ROW, "abcdefghi"),), ((ROW, "a"), (ROW, "b")), ((ROW, text_of(200)),)):
            self.assertIsNone(only_text(views))
            self.assertIsNone(least_text(views))
            self.assertEqual([number_of(views, length) for length in range(12)], [0] * 12)
            self.assertEqual([signs(views, length) for length in range(12)], [None] * 12)


class TriedTest(unittest.TestCase):
    def assert_as_tried(self, tried, views):
        """Compare all answers, for rows whose plans are told by those for at most `most` signs."""
        fitting = tried.fitting(views)
        by_length = [[text for text in fitting if len(text) == length] for length in range(tried.most + 1)]
        pair = told_by([bool(texts) for texts in by_length])
        self.assertEqual(lengths(views), pair, views)
        for length, texts in enumerate(by_length):
            told = shared_signs(texts)
            self.assertEqual(signs(views, length), told, views)
            if told is not None:
                self.assertEqual(len(texts), len(tried.alphabet) ** told.count("?"), views)
            self.assertEqual(number_of(views, length), 0 if told is None else 38 ** told.count("?"), views)
        self.assertEqual(least_text(views), fitting[0] if fitting else None, views)
        self.assertEqual(only_text(views), fitting[0] if len(fitting) == 1 and pair[1] is None else None, views)

    def test_all_signs_for_up_to_two_signs(self):
        drawn = random.Random(11)
        rows = [one(*told, mark) for told in itertools.product((0, 1), repeat=3) for mark in ("", ".", "a~")]
        tried = Tried(list(texts_up_to(2)), rows + small_rows(drawn, 30, 1, ("", ".", "a")), SIGNS)
        for many in range(1, 5):
            for _ in range(100):
                self.assert_as_tried(tried, tried.some_views(drawn, many))

    def test_all_signs_for_up_to_three_signs(self):
        drawn = random.Random(12)
        rows = [one(2, 1, 1, ""), one(1, 1, 1, "a"), one(0, 1, 1, "."), one(0, 0, 1, ""), one(1, 0, 0, "")]
        tried = Tried(list(texts_up_to(3)), rows, SIGNS)
        for many in (1, 2, 3, 4):
            for _ in range(8):
                self.assert_as_tried(tried, tried.some_views(drawn, many))

    def test_three_signs_for_up_to_six_signs(self):
        drawn = random.Random(13)
        rows = small_rows(drawn, 100, 3, ("", "", ".", "a", "~", "..", ".~"))
        # They show a sign just for some lengths.
        rows += [one(3, 0, 0, "") + one(least, head, 0, "~") for least in (0, 1, 2) for head in (0, 1)] * 5
        tried = Tried(list(texts_up_to(6, ".a~")), rows, ".a~")
        kinds = set()
        for many in range(1, 5):
            for _ in range(250):
                views = tried.some_views(drawn, many)
                self.assert_as_tried(tried, views)
                some, beyond = lengths(views)
                kinds.add((min(len(some), 2), beyond is None, only_text(views) is None))
        for kind in ((0, True, True), (1, True, False), (1, True, True), (2, True, True), (0, False, True), (1, False, True)):
            self.assertIn(kind, kinds)


class GreatTest(unittest.TestCase):
    def some_row(self, drawn):
        return tuple(
            Shortener(*[drawn.choice((0, 40, drawn.randint(0, 40))) for _ in range(3)], drawn.choice(("", "~", "a", "aaa")))
            for _ in range(drawn.randint(1, 4))
        )

    def assert_as_modelled(self, views):
        modelled = [modelled_signs(views, length) for length in range(131)]
        self.assertEqual(lengths(views), told_by([told is not None for told in modelled]), views)
        for length in (*range(0, 131, 7), 39, 40, 41, 42, 78, 79, 80, 81):
            self.assertEqual(signs(views, length), modelled[length], views)
        least = next((told for told in modelled if told is not None), None)
        self.assertEqual(least_text(views), least.replace("?", ".") if least is not None else None, views)
        only = len([told for told in modelled if told is not None]) == 1 and "?" not in least
        self.assertEqual(only_text(views), least if only else None, views)

    def test_of_one_text(self):
        drawn = random.Random(14)
        for _ in range(300):
            length = drawn.choice((0, 1, 5, 39, 40, 41, 60, 79, 80, 81, 200))
            text = "".join(drawn.choice(drawn.choice(("a", "ab", SIGNS))) for _ in range(length))
            rows = [self.some_row(drawn) for _ in range(drawn.randint(1, 4))]
            views = tuple((row, show(row, text)) for row in rows)
            self.assert_as_modelled(views)
            some, beyond = lengths(views)
            self.assertTrue(length in some or beyond is not None and beyond <= length)
            told = signs(views, length)
            self.assertTrue(all(sign in ("?", kept) for sign, kept in zip(told, text)))
            self.assertEqual(number_of(views, length), 38 ** told.count("?"))
            for other in (".", "a", "~"):
                self.assertEqual([show(row, told.replace("?", other)) for row in rows], [shown for _, shown in views])
            self.assertLessEqual((len(least_text(views)), least_text(views)), (length, text))

    def test_of_several_texts(self):
        drawn = random.Random(15)
        for _ in range(300):
            rows = [self.some_row(drawn) for _ in range(drawn.randint(1, 4))]
            texts = ["a" * drawn.choice((1, 38, 39, 40, 41, 60, 80)) for _ in rows]
            self.assert_as_modelled(tuple((row, show(row, text)) for row, text in zip(rows, texts)))

    def test_with_signs_that_repeat(self):
        for head, tail in itertools.product((0, 1, 20, 39, 40), repeat=2):
            for period in ("a", "ab", "abcde"):
                shown = (period * 40)[:head] + (period * 40)[:tail]
                self.assert_as_modelled(((one(0, head, tail, ""), shown),))
                self.assert_as_modelled(((one(40, head, tail, ""), shown),))
                self.assert_as_modelled(((one(0, head, 0, ""), shown[:head]), (one(0, 0, tail, ""), shown[head:])))

    def test_shown_with_200_signs(self):
        for row in (ROW, ROW * 4, one(0, 40, 40, "~~~"), one(40, 40, 40, "")):
            self.assertLess(widest(row), 200)
            views = ((row, "a" * 200),)
            self.assertEqual(lengths(views), ((), None))
            self.assertEqual([signs(views, 200), number_of(views, 200)], [None, 0])
            self.assertEqual([only_text(views), least_text(views)], [None, None])


class SameAnswersTest(unittest.TestCase):
    def answers(self, views):
        told = [call(views) for call in WITHOUT_LENGTH]
        return told + [call(views, length) for call in WITH_LENGTH for length in (0, 4, 7, 9, 500)]

    def test_the_order_of_the_views_and_equal_ones_do_not_matter(self):
        for views in (
            ((one(5, 4, 0, "~"), "abcd~"), (one(5, 0, 4, "~"), "~defg"), (one(0, 1, 0, ""), "a")),
            ((ROW, "abcd"), (one(0, 1, 1, ""), "ad"), (one(0, 0, 0, "~"), "~")),
            ((ROW, "abcd"), (one(0, 1, 1, ""), "ac"), (one(0, 0, 0, "~"), "~")),
        ):
            expected = self.answers(views)
            self.assertEqual(self.answers(views), expected)
            for order in itertools.permutations(views):
                self.assertEqual(self.answers(order), expected)
                self.assertEqual(self.answers(order + order[:1]), expected)
                self.assertEqual(self.answers(order[2:] + order), expected)
        self.assertEqual(self.answers(VIEWS * 4), self.answers(VIEWS))
        self.assertEqual(self.answers(VIEWS + ((one(8, 3, 2, "..."), "abc...ij"),)), self.answers(VIEWS))

    def test_by_name(self):
        for call in WITHOUT_LENGTH:
            self.assertEqual(call(views=VIEWS), call(VIEWS))
        for call in WITH_LENGTH:
            self.assertEqual(call(length=10, views=VIEWS), call(VIEWS, 10))
            self.assertEqual(call(VIEWS, length=10), call(VIEWS, 10))


class RefusedTest(unittest.TestCase):
    def assert_views_refused(self, views, index):
        for call in WITHOUT_LENGTH:
            assert_refused(self, InvalidViews, "index", index, call, views)
            assert_refused(self, InvalidViews, "index", index, call, views=views)
        for call in WITH_LENGTH:
            assert_refused(self, InvalidViews, "index", index, call, views, 8)
            assert_refused(self, InvalidViews, "index", index, call, length=8, views=views)

    def test_no_tuple_or_a_wrong_number_of_views(self):
        for views in (
            None, 0, 1, True, "", "abc", b"ab", [], [VIEW], [VIEW] * 4, {}, {"a": VIEW}, set(), SHORT, object(), tuple, (),
            VIEWS * 5, VIEWS * 6, (None,) * 5, VIEWS * 4 + (None,), (None,) + VIEWS * 4,
        ):
            with self.subTest(repr(views)):
                self.assert_views_refused(views, None)

    def wrong_ones(self):
        yield from (None, 0, True, "", "ab", b"ab", [], list(VIEW), {}, {"a", "b"}, SHORT, ROW, object(), tuple)
        yield from ((), (ROW,), ("abc",), (ROW, "abc", "abc"), (ROW, "abc", None), ("abc", ROW), (SHORT, "abc"), (VIEW,))
        yield from ((row, "abc") for row, _ in wrong_rows())
        yield from ((ROW, text) for text in NO_TEXTS)
        yield (None, None)

    def test_a_wrong_one_at_each_place(self):
        for wrong in self.wrong_ones():
            with self.subTest(repr(wrong)):
                for many in range(1, 5):
                    for place in range(many):
                        self.assert_views_refused(VIEWS * place + (wrong,) + VIEWS * (many - place - 1), place)

    def test_a_view_alone(self):
        self.assert_views_refused(VIEW, 0)

    def test_the_first_of_several_wrong_ones(self):
        self.assert_views_refused((None, None), 0)
        self.assert_views_refused((VIEW, (ROW, "A"), VIEW, None), 1)
        self.assert_views_refused((VIEW, VIEW, ([], "a"), (ROW, 3)), 2)
        self.assert_views_refused((VIEW, list(VIEW), (ROW,), (ROW * 5, "a")), 1)

    def test_200_signs_are_let_and_201_are_not(self):
        self.assertEqual(lengths((VIEW, (ROW, text_of(200)))), ((), None))
        self.assertEqual(number_of(((ROW, text_of(200)),), 200), 0)
        self.assert_views_refused(((ROW, text_of(201)),), 0)
        self.assert_views_refused((VIEW, VIEW, VIEW, (ROW, text_of(201))), 3)

    def test_lengths(self):
        for length in NO_LENGTHS:
            for call in WITH_LENGTH:
                with self.subTest(repr(length), call=call):
                    assert_refused(self, InvalidLength, "value", length, call, VIEWS, length)
                    assert_refused(self, InvalidLength, "value", length, call, length=length, views=VIEWS)

    def test_lengths_for_views_that_nothing_fits(self):
        for call in WITH_LENGTH:
            assert_refused(self, InvalidLength, "value", 501, call, ((ROW, "abcdefghi"),), 501)

    def test_the_views_are_looked_at_first(self):
        for views, index in ((None, None), ([VIEW], None), ((), None), (VIEWS * 5, None), ((VIEW, 1), 1), ((VIEW, VIEW, ()), 2)):
            for length in (-1, 501, True, None, "5", []):
                for call in WITH_LENGTH:
                    with self.subTest(repr(views), length=length):
                        assert_refused(self, InvalidViews, "index", index, call, views, length)
                        assert_refused(self, InvalidViews, "index", index, call, length=length, views=views)


if __name__ == "__main__":
    unittest.main()
