import itertools
import random
import unittest

from shownshort.errors import InvalidPlace, InvalidTexts, NotANamer
from shownshort.names import Namer, meeting, names, possible_names
from tests.helper import (
    NAMER, NO_NAMERS, NO_TEXTS, RULES, SHORT, TROUBLE, assert_examples_hold, assert_refused, modelled_name, text_of,
)

EXAMPLES = r"""
>>> from shownshort.names import Namer, meeting, names, possible_names
>>> texts = ("abcdefghij", "abcdefghkl", "abcdefgh~2")
>>> [names(Namer("count", 8), texts), names(Namer("free", 10), ("a", "a", "a~2", "a")), names(Namer("tight", 8), texts), names(Namer("count", 10), ("a", "a", "a~2"))]
[('abcdefgh', 'abcdefgh~2', 'abcdefgh~3'), ('a', 'a~2', 'a~2~2', 'a~3'), ('abcdefgh', 'abcdef~2', 'abcdef~3'), ('a', 'a~2', 'a~2')]
>>> [meeting(Namer("free", 8), texts), meeting(Namer("count", 8), ("a", "b", "a~2")), possible_names(Namer("free", 8), ("a", "a", "a~2"), 2), possible_names(Namer("free", 8), ("a", "a", "a~2"), 0)]
[None, None, ('a~2', 'a~2~2'), ('a', 'a~2', 'a~3')]
"""

TEXTS = ("a", "b", "a")


def modelled_names(namer, texts):
    there = []
    for text in texts:
        there.append((text, modelled_name(namer, text, there)))
    return tuple(name for _, name in there)


def all_orders(namer, texts):
    """For each order the names of the texts, by their places."""
    named = {}
    for order in itertools.permutations(range(len(texts))):
        given = modelled_names(namer, [texts[place] for place in order])
        named[order] = [given[order.index(place)] for place in range(len(texts))]
    return named


def some_lists(drawn, many, sizes):
    for _ in range(many):
        few = drawn.sample(TROUBLE, drawn.randint(1, 6))
        yield tuple(drawn.choice(few) for _ in range(drawn.choice(sizes)))


class NamesTest(unittest.TestCase):
    def test_examples(self):
        assert_examples_hold(self, EXAMPLES)

    def assert_named(self, texts, width, expected):
        for rule, told in expected.items():
            with self.subTest(texts, rule=rule):
                self.assertEqual(names(Namer(rule, width), texts), told)

    def test_no_texts_and_one(self):
        for rule in RULES:
            self.assertEqual(names(Namer(rule, 6), ()), ())
            self.assertEqual(names(Namer(rule, 6), ("",)), ("",))
            self.assertEqual(names(Namer(rule, 6), ("abcdef",)), ("abcdef",))
            self.assertEqual(names(Namer(rule, 6), ("abcdefg",)), ("abcdef",))
            self.assertEqual(names(Namer(rule, 40), (text_of(200),)), (text_of(40),))
            self.assertEqual(names(Namer(rule, 6), ("a~2",)), ("a~2",))

    def test_different_bases(self):
        texts = ("abc", "abcd", "xyz", "", "abcdefg", "~2")
        for rule in RULES:
            self.assertEqual(names(Namer(rule, 6), texts), ("abc", "abcd", "xyz", "", "abcdef", "~2"))

    def test_six_equal_texts(self):
        plain = ("a", "a~2", "a~3", "a~4", "a~5", "a~6")
        self.assert_named(("a",) * 6, 6, {"count": plain, "free": plain, "tight": plain})
        cut = ("abcdef", "abcd~2", "abcd~3", "abcd~4", "abcd~5", "abcd~6")
        full = ("abcdef", "abcdef~2", "abcdef~3", "abcdef~4", "abcdef~5", "abcdef~6")
        self.assert_named(("abcdefg",) * 6, 6, {"count": full, "free": full, "tight": cut})

    def test_empty_texts(self):
        told = ("", "~2", "~3")
        self.assert_named(("",) * 3, 6, {"count": told, "free": told, "tight": told})
        self.assert_named(
            ("~2", "", ""), 6,
            {"count": ("~2", "", "~2"), "free": ("~2", "", "~3"), "tight": ("~2", "", "~3")},
        )
        self.assert_named(
            ("", "", "~2"), 6,
            {"count": ("", "~2", "~2"), "free": ("", "~2", "~2~2"), "tight": ("", "~2", "~2~2")},
        )

    def test_longer_than_the_width(self):
        texts = ("abcdefgh", "abcdefxy", "abcdef")
        self.assert_named(texts, 6, {
            "count": ("abcdef", "abcdef~2", "abcdef~3"),
            "free": ("abcdef", "abcdef~2", "abcdef~3"),
            "tight": ("abcdef", "abcd~2", "abcd~3"),
        })
        for rule in RULES:
            self.assertEqual(names(Namer(rule, 8), texts), ("abcdefgh", "abcdefxy", "abcdef"))

    def test_texts_that_look_like_numbered_ones(self):
        self.assert_named(("a~2", "a", "a", "a"), 6, {
            "count": ("a~2", "a", "a~2", "a~3"),
            "free": ("a~2", "a", "a~3", "a~4"),
            "tight": ("a~2", "a", "a~3", "a~4"),
        })
        self.assert_named(("a~3", "a", "a", "a"), 6, {
            "count": ("a~3", "a", "a~2", "a~3"),
            "free": ("a~3", "a", "a~2", "a~4"),
            "tight": ("a~3", "a", "a~2", "a~4"),
        })
        self.assert_named(("a", "a", "a~2", "a~2"), 6, {
            "count": ("a", "a~2", "a~2", "a~2~2"),
            "free": ("a", "a~2", "a~2~2", "a~2~3"),
            "tight": ("a", "a~2", "a~2~2", "a~2~3"),
        })
        # No number but 2 and those above it, and none with a zero in front, is in the way.
        for odd in ("a~1", "a~0", "a~02", "a~", "a2", "a~2a"):
            for rule in RULES:
                self.assertEqual(names(Namer(rule, 6), (odd, "a", "a")), (odd, "a", "a~2"))

    def test_tight_names_just_as_long_as_the_width(self):
        tight = Namer("tight", 6)
        self.assertEqual(names(tight, ("abc", "abc")), ("abc", "abc~2"))
        self.assertEqual(names(tight, ("abcd", "abcd")), ("abcd", "abcd~2"))
        self.assertEqual(names(tight, ("abcde", "abcde")), ("abcde", "abcd~2"))
        self.assertEqual(names(tight, ("abcdef", "abcdef")), ("abcdef", "abcd~2"))
        self.assertEqual(names(tight, ("abcd~2", "abcd", "abcd")), ("abcd~2", "abcd", "abcd~3"))

    def test_tight_names_that_are_cut_alike(self):
        tight = Namer("tight", 6)
        self.assertEqual(names(tight, ("abcde", "abcde", "abcdf", "abcdf")), ("abcde", "abcd~2", "abcdf", "abcd~3"))
        self.assertEqual(names(tight, ("abcd~2", "abcd~2", "abcd~2")), ("abcd~2", "abcd~3", "abcd~4"))
        self.assertEqual(names(tight, ("abcd~2", "abcd~3", "abcd~3")), ("abcd~2", "abcd~3", "abcd~4"))
        self.assertEqual(names(tight, ("abcdef",) * 2 + ("abcd~2",)), ("abcdef", "abcd~2", "abcd~3"))

    def test_widths_6_and_40(self):
        long = text_of(41)
        self.assert_named((long, long[:40], long + "x"), 40, {
            "count": (long[:40], long[:40] + "~2", long[:40] + "~3"),
            "free": (long[:40], long[:40] + "~2", long[:40] + "~3"),
            "tight": (long[:40], long[:38] + "~2", long[:38] + "~3"),
        })
        self.assert_named((text_of(39), text_of(39)), 40, {
            "count": (text_of(39), text_of(39) + "~2"), "free": (text_of(39), text_of(39) + "~2"),
            "tight": (text_of(39), text_of(38) + "~2"),
        })

    def test_as_modelled(self):
        drawn = random.Random(21)
        for texts in [*itertools.product(TROUBLE, repeat=2), *some_lists(drawn, 1500, range(7))]:
            for rule, width in itertools.product(RULES, (6, 7, 40)):
                namer = Namer(rule, width)
                self.assertEqual(names(namer, texts), modelled_names(namer, texts), (namer, texts))

    def test_by_name_and_again(self):
        self.assertEqual(names(texts=TEXTS, namer=NAMER), ("a", "b", "a~2"))
        self.assertEqual(names(NAMER, texts=TEXTS), names(NAMER, TEXTS))
        self.assertIs(type(names(NAMER, TEXTS)), tuple)


class MeetingTest(unittest.TestCase):
    def assert_meets(self, namer, texts):
        order = meeting(namer, texts)
        self.assertIs(type(order), tuple, (namer, texts))
        self.assertEqual(sorted(order), list(range(len(texts))), (namer, texts))
        given = modelled_names(namer, [texts[place] for place in order])
        self.assertLess(len(set(given)), len(given), (namer, texts))
        self.assertEqual(meeting(Namer(namer.rule, namer.width), tuple(list(texts))), order)

    def test_by_count(self):
        for texts in (
            ("a", "a", "a~2"), ("a~2", "a", "a"), ("", "~2", ""), ("abcd", "abcd~2", "b", "abcd"),
            ("a", "a", "a", "b", "c", "a~3"), ("a~2~2", "a~2", "a~2"),
        ):
            with self.subTest(texts):
                self.assert_meets(Namer("count", 6), texts)

    def test_none_by_count(self):
        count = Namer("count", 6)
        for texts in (
            (), ("a",), ("a", "a"), ("a", "a~2"), ("a", "b", "a~2"), ("a", "a", "a~3"), ("a",) * 6,
            ("abcdef", "abcdefg", "abcdef~2"), ("a", "a", "a~1"), ("a", "a", "a~02", "a~"),
        ):
            with self.subTest(texts):
                self.assertIsNone(meeting(count, texts))

    def test_the_width_decides(self):
        texts = ("abcd", "abcd", "abcd~2x")
        self.assert_meets(Namer("count", 6), texts)
        self.assertIsNone(meeting(Namer("count", 7), texts))

    def test_never_by_free_and_tight(self):
        drawn = random.Random(22)
        for texts in [("a", "a", "a~2"), ("", "", "~2"), ("abcd~2",) * 6, *some_lists(drawn, 20, (5, 6))]:
            for rule in ("free", "tight"):
                self.assertIsNone(meeting(Namer(rule, 6), texts), texts)

    def test_all_orders_of_up_to_four_texts(self):
        drawn = random.Random(23)
        lists = [texts for many in range(4) for texts in itertools.product(("", "~2", "a", "a~2", "a~2~2"), repeat=many)]
        lists += itertools.product(("a", "a~2", "a~3"), repeat=4)
        lists += some_lists(drawn, 300, (3, 4))
        met = 0
        for texts in lists:
            for rule in RULES:
                namer = Namer(rule, 6)
                if any(len(set(given)) < len(given) for given in all_orders(namer, texts).values()):
                    met += 1
                    self.assert_meets(namer, texts)
                else:
                    self.assertIsNone(meeting(namer, texts), (namer, texts))
        self.assertGreater(met, 20)

    def test_five_and_six_texts(self):
        drawn = random.Random(24)
        lists = [("b", "c", "d", "a~2", "a", "a"), ("a~5",) + ("a",) * 5, ("a",) * 4 + ("a~4",), ("a~6",) + ("a",) * 5]
        for texts in lists + list(some_lists(drawn, 30, (5, 6))):
            namer = Namer("count", 6)
            if any(len(set(given)) < len(given) for given in all_orders(namer, texts).values()):
                self.assert_meets(namer, texts)
            else:
                self.assertIsNone(meeting(namer, texts), texts)
        for texts in lists[:3]:
            self.assert_meets(Namer("count", 6), texts)
        self.assertIsNone(meeting(Namer("count", 6), lists[3]))

    def test_by_name_and_again(self):
        count = Namer("count", 8)
        texts = ("a", "a", "a~2")
        self.assertEqual(meeting(texts=texts, namer=count), meeting(count, texts))
        self.assertEqual(meeting(count, texts=texts), meeting(count, texts))
        self.assertIsNone(meeting(texts=texts, namer=NAMER))


class PossibleNamesTest(unittest.TestCase):
    def assert_as_tried(self, namer, texts):
        named = list(all_orders(namer, texts).values())
        for place in range(len(texts)):
            expected = tuple(sorted({given[place] for given in named}))
            self.assertEqual(possible_names(namer, texts, place), expected, (namer, texts, place))

    def test_each_rule(self):
        texts = ("a", "a", "a~2")
        self.assertEqual(possible_names(Namer("count", 6), texts, 0), ("a", "a~2"))
        self.assertEqual(possible_names(Namer("count", 6), texts, 2), ("a~2",))
        for rule in ("free", "tight"):
            self.assertEqual(possible_names(Namer(rule, 6), texts, 1), ("a", "a~2", "a~3"))
            self.assertEqual(possible_names(Namer(rule, 6), texts, 2), ("a~2", "a~2~2"))
        texts = ("abcdefx", "abcdefy", "abcd~2")
        self.assertEqual(possible_names(Namer("count", 6), texts, 0), ("abcdef", "abcdef~2"))
        self.assertEqual(possible_names(Namer("free", 6), texts, 2), ("abcd~2",))
        self.assertEqual(possible_names(Namer("tight", 6), texts, 0), ("abcdef", "abcd~2", "abcd~3"))
        self.assertEqual(possible_names(Namer("tight", 6), texts, 2), ("abcd~2", "abcd~3"))

    def test_one_text_and_equal_ones(self):
        for rule in RULES:
            namer = Namer(rule, 6)
            self.assertEqual(possible_names(namer, ("abcdefg",), 0), ("abcdef",))
            self.assertEqual(possible_names(namer, ("",), 0), ("",))
            for place in range(6):
                told = ("a", "a~2", "a~3", "a~4", "a~5", "a~6")
                self.assertEqual(possible_names(namer, ("a",) * 6, place), told)
                self.assertEqual(possible_names(namer, ("",) * 6, place), ("", "~2", "~3", "~4", "~5", "~6"))

    def test_as_python_compares_strings(self):
        self.assertEqual(possible_names(Namer("tight", 6), ("abcde", "abcde"), 0), ("abcde", "abcd~2"))
        self.assertEqual(possible_names(Namer("tight", 6), ("abcd~", "abcd~"), 0), ("abcd~", "abcd~2"))
        self.assertEqual(possible_names(Namer("tight", 6), ("abcd~z", "abcd~z"), 0), ("abcd~2", "abcd~z"))

    def test_all_orders_of_up_to_four_texts(self):
        drawn = random.Random(25)
        lists = [texts for many in range(1, 4) for texts in itertools.product(("", "a", "a~2", "abcdef", "abcd~2"), repeat=many)]
        for texts in lists + list(some_lists(drawn, 200, (3, 4))):
            for rule in RULES:
                self.assert_as_tried(Namer(rule, 6), texts)

    def test_five_and_six_texts(self):
        drawn = random.Random(26)
        for texts in [("a", "a", "a", "a~2", "a~2", "a~3"), *some_lists(drawn, 8, (5, 6))]:
            for rule in RULES:
                self.assert_as_tried(Namer(rule, 6), texts)

    def test_by_name_and_again(self):
        self.assertEqual(possible_names(place=2, texts=TEXTS, namer=NAMER), ("a", "a~2"))
        self.assertEqual(possible_names(NAMER, TEXTS, place=1), ("b",))
        self.assertEqual(possible_names(NAMER, TEXTS, 0), possible_names(NAMER, TEXTS, 0))
        self.assertIs(type(possible_names(NAMER, TEXTS, 0)), tuple)


class RefusedTest(unittest.TestCase):
    def assert_all_refused(self, error, attribute, wrong, namer, texts, place=0):
        for call in (names, meeting):
            assert_refused(self, error, attribute, wrong, call, namer, texts)
            assert_refused(self, error, attribute, wrong, call, texts=texts, namer=namer)
        assert_refused(self, error, attribute, wrong, possible_names, namer, texts, place)
        assert_refused(self, error, attribute, wrong, possible_names, place=place, texts=texts, namer=namer)

    def test_namers(self):
        for namer in NO_NAMERS:
            with self.subTest(repr(namer)):
                self.assert_all_refused(NotANamer, "value", namer, namer, TEXTS)

    def test_no_tuple_or_too_many_texts(self):
        for texts in (
            None, 0, True, "", "abc", b"ab", [], ["a"], list(TEXTS), {}, {"a": "b"}, set(), {"a"}, object(), tuple, SHORT,
            ("a",) * 7, ("a",) * 8, (None,) * 7, ("a",) * 6 + (None,), (None,) + ("a",) * 6,
        ):
            with self.subTest(repr(texts)):
                self.assert_all_refused(InvalidTexts, "index", None, NAMER, texts)

    def test_a_wrong_one_at_each_place(self):
        for wrong in NO_TEXTS:
            for many in range(1, 7):
                for place in range(many):
                    with self.subTest(repr(wrong), many=many, place=place):
                        texts = ("a",) * place + (wrong,) + ("a",) * (many - place - 1)
                        self.assert_all_refused(InvalidTexts, "index", place, NAMER, texts)

    def test_the_first_of_several_wrong_ones(self):
        self.assert_all_refused(InvalidTexts, "index", 0, NAMER, (None, None))
        self.assert_all_refused(InvalidTexts, "index", 1, NAMER, ("a", "A", "b", 3, "c", ""))
        self.assert_all_refused(InvalidTexts, "index", 4, NAMER, ("a", "a", "b", "", b"", " "))

    def test_200_signs_are_let_and_201_are_not(self):
        for rule in RULES:
            namer = Namer(rule, 6)
            self.assertEqual(names(namer, (text_of(200),)), (text_of(6),))
            self.assertEqual(possible_names(namer, (text_of(200),), 0), (text_of(6),))
            self.assertIsNone(meeting(namer, (text_of(200),)))
            self.assert_all_refused(InvalidTexts, "index", 0, namer, (text_of(201),))
            self.assert_all_refused(InvalidTexts, "index", 2, namer, ("a", text_of(200), text_of(201)))

    def test_places(self):
        for texts in (TEXTS, ("a",), ("a",) * 6):
            for place in (
                -1, len(texts), len(texts) + 1, -10 ** 19, 10 ** 19, True, False, None, "", "0", b"0", (), (0,), [], [0], {},
                {0}, int, object(), SHORT, NAMER,
            ):
                with self.subTest(texts, place=repr(place)):
                    assert_refused(self, InvalidPlace, "value", place, possible_names, NAMER, texts, place)
                    assert_refused(self, InvalidPlace, "value", place, possible_names, place=place, texts=texts, namer=NAMER)

    def test_no_place_without_texts(self):
        for place in (0, 1, -1, None):
            assert_refused(self, InvalidPlace, "value", place, possible_names, NAMER, (), place)

    def test_several_wrong_arguments(self):
        for namer, texts, place in itertools.product(NO_NAMERS, (["a"], ("A",), ("a",) * 7, None), (3, -1, True, None, "0")):
            with self.subTest(repr(namer), texts=texts, place=place):
                self.assert_all_refused(NotANamer, "value", namer, namer, texts, place)
        for namer in NO_NAMERS:
            assert_refused(self, NotANamer, "value", namer, possible_names, namer, TEXTS, 3)
        for place in (3, -1, True, None, "0"):
            self.assert_all_refused(InvalidTexts, "index", None, NAMER, list(TEXTS), place)
            self.assert_all_refused(InvalidTexts, "index", 1, NAMER, ("a", "A", None), place)


if __name__ == "__main__":
    unittest.main()
