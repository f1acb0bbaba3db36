import itertools
import random
import unittest

from shownshort.alike import are_alike, first_unlike, first_unstable
from shownshort.checker import holds
from shownshort.names import Namer
from shownshort.shelves import Shelf
from shownshort.shorteners import Shortener
from shownshort.views import number_of
from tests.helper import (
    NO_MARKS, NO_TEXTS, ODD, ROW, SHORT, SIGNS, great_rows, modelled_row, one, small_rows, text_of, texts_up_to,
)

TOLD = ((8, 3, 2, "..."),)
OTHER = ((7, 3, 2, "..."),)
# For each word a claim that is so, with a paper that shows it.
RIGHT = {
    "alike": (("alike", TOLD, TOLD * 2), ()),
    "unlike": (("unlike", TOLD, OTHER), ".....0.."),
    "stable": (("stable", TOLD), ()),
    "unstable": (("unstable", ((0, 2, 0, "~"),)), "."),
    "possible": (("possible", TOLD, "abc...ij", 9), "abcdefgij"),
    "impossible": (("impossible", TOLD, "abcd", 9), ()),
    "confused": (("confused", TOLD), ("........", ".........")),
}
WITHOUT_PAPER = ("alike", "stable", "impossible")
WITH_TEXT = ("unlike", "unstable", "possible")


def nested(levels):
    told = ()
    for level in range(levels):
        told = [told] if level % 2 else (told,)
    return told


ANYTHING = (
    None, True, False, 0, 1, -1, 8, 9, 10 ** 19, "", "a", "alike", "A", " ", "a" * 400, b"", b"ab", (), ((),), ("a",),
    ("alike",), ("alike", TOLD), ("stable",), ("stable", ()), (None,), (1, 2), ("a", "b"), ("a", "b", "c", "d", "e"), [], [()],
    ["stable", TOLD], {}, {"stable": TOLD}, set(), {"stable"}, frozenset(), TOLD, TOLD[0], SHORT, ROW, Namer("free", 8),
    Shelf(Namer("free", 8)), object(), ODD, (ODD, TOLD), (ODD,) * 3, ([], TOLD), ({}, TOLD, TOLD), (set(), TOLD),
    (b"stable", TOLD), (None, TOLD), (("stable",), TOLD), holds, str, ValueError("x"), nested(15), nested(14),
)


def told_of(row):
    return tuple(shortener.told for shortener in row)


def wrong_told_rows():
    """What is no ROW of a claim."""
    yield from (None, 0, True, "", "abc", [], list(TOLD), (), TOLD * 5, TOLD * 6, TOLD[0], (TOLD,), {}, set(), SHORT, ROW, ROW * 4)
    yield from ((list(TOLD[0]),), ([],), ((),), (None,), ("abcd",), (TOLD[0][:3],), (TOLD[0] + ("a",),), (TOLD[0] + (1,),))
    for at in range(3):
        for number in (-1, 41, 10 ** 19, True, False, None, "3", b"3", (3,), [3], SHORT):
            yield (TOLD[0][:at] + (number,) + TOLD[0][at + 1:],)
    for mark in NO_MARKS:
        yield ((8, 3, 2, mark),)
    yield (("...", 8, 3, 2),)
    for many in (2, 3, 4):
        for place in range(many):
            for wrong in ((8, 3, 2), (8, 3, 2, "...."), (8, 3, True, "..."), [8, 3, 2, "..."], SHORT, None):
                yield TOLD * place + (wrong,) + TOLD * (many - place - 1)


def with_part(claim, at, part):
    return claim[:at] + (part,) + claim[at + 1:]


class FormsTest(unittest.TestCase):
    def assert_holds(self, claim, paper, expected):
        self.assertIs(holds(claim, paper), expected, (claim, paper))

    def test_the_right_ones(self):
        for claim, paper in RIGHT.values():
            self.assert_holds(claim, paper, True)

    def test_by_name_and_again(self):
        for claim, paper in RIGHT.values():
            self.assertIs(holds(paper=paper, claim=claim), True)
            self.assertIs(holds(claim, paper=paper), True)
            self.assertIs(holds(paper=object(), claim=claim), False)

    def test_each_paper_with_each_claim(self):
        for (word, (claim, _)), (other, (_, paper)) in itertools.product(RIGHT.items(), repeat=2):
            both_empty = word in WITHOUT_PAPER and other in WITHOUT_PAPER
            self.assert_holds(claim, paper, word == other or both_empty)

    def test_anything_at_all(self):
        for claim, paper in itertools.product(ANYTHING, repeat=2):
            self.assert_holds(claim, paper, False)
        for claim, paper in RIGHT.values():
            for wrong in ANYTHING:
                self.assert_holds(wrong, paper, False)
                if wrong != paper or type(wrong) is not type(paper):
                    self.assertIsInstance(holds(claim, wrong), bool)

    def test_papers_of_other_kinds(self):
        for word, (claim, paper) in RIGHT.items():
            for wrong in ANYTHING:
                if isinstance(wrong, str) and word in WITH_TEXT or wrong == () and type(wrong) is tuple:
                    continue
                self.assert_holds(claim, wrong, False)

    def test_the_empty_tuple_and_texts(self):
        for word in WITHOUT_PAPER:
            claim = RIGHT[word][0]
            for paper in ("", "a", [], None, False, 0, ((),), ("",), {}, b"", set(), frozenset()):
                self.assert_holds(claim, paper, False)
        for word in WITH_TEXT + ("confused",):
            claim, paper = RIGHT[word]
            for wrong in ((), [], None, (paper,), [paper], (paper, paper), b"", "A", " "):
                self.assert_holds(claim, wrong, False)

    def test_words(self):
        for word, (claim, paper) in RIGHT.items():
            for other in ("", word.upper(), word + " ", " " + word, word[:-1], word + "s", "is", None, b"alike", [word], (word,), 1):
                self.assert_holds(with_part(claim, 0, other), paper, False)
            self.assert_holds(("".join(list(word)), *claim[1:]), paper, True)

    def test_claims_as_lists(self):
        for claim, paper in RIGHT.values():
            self.assert_holds(list(claim), paper, False)
            for at in range(1, len(claim)):
                if isinstance(claim[at], tuple):
                    self.assert_holds(with_part(claim, at, list(claim[at])), paper, False)
                    self.assert_holds(with_part(claim, at, tuple(list(part) for part in claim[at])), paper, False)

    def test_a_part_left_out_or_added(self):
        for claim, paper in RIGHT.values():
            for at in range(len(claim)):
                self.assert_holds(claim[:at] + claim[at + 1:], paper, False)
            for at in range(len(claim) + 1):
                for part in (TOLD, (), None, "a", 3, *claim):
                    self.assert_holds(claim[:at] + (part,) + claim[at:], paper, False)
            self.assert_holds(claim + claim, paper, False)
            self.assert_holds((claim, paper), (), False)

    def test_parts_exchanged(self):
        for claim, paper in RIGHT.values():
            for order in itertools.permutations(range(len(claim))):
                if order != tuple(range(len(claim))) and (len(claim) != 3 or order[0] != 0):
                    self.assert_holds(tuple(claim[at] for at in order), paper, False)
        self.assert_holds(("alike", TOLD * 2, TOLD), (), True)
        self.assert_holds(("unlike", OTHER, TOLD), ".....0..", True)

    def test_rows_of_other_forms(self):
        for claim, paper in RIGHT.values():
            for at in range(1, len(claim)):
                if isinstance(claim[at], tuple):
                    for wrong in wrong_told_rows():
                        self.assert_holds(with_part(claim, at, wrong), paper, False)

    def test_rows_of_two_wrong_forms(self):
        for wrong in wrong_told_rows():
            self.assert_holds(("alike", wrong, wrong), (), False)
            self.assert_holds(("unlike", wrong, wrong), "a", False)

    def test_numbers_0_and_40_and_rows_of_four(self):
        for told in ((0, 0, 0, ""), (40, 40, 40, "~~~"), (0, 40, 0, "a"), (40, 0, 40, "")):
            for many in (1, 2, 3, 4):
                self.assert_holds(("alike", (told,) * many, (told,) * many), (), True)
        self.assert_holds(("stable", ((40, 20, 17, "..."),) * 4), (), True)
        self.assert_holds(("stable", ((40, 20, 17, "..."),) * 5), (), False)

    def test_shown_forms_and_lengths(self):
        for word in ("possible", "impossible"):
            claim, paper = RIGHT[word]
            for shown in NO_TEXTS:
                self.assert_holds(with_part(claim, 2, shown), paper, False)
            for length in (-1, 501, 10 ** 19, True, False, None, "9", b"9", (9,), [9], SHORT):
                self.assert_holds(with_part(claim, 3, length), paper, False)
        # A bool is no length, though Python takes True for 1.
        self.assert_holds(("possible", TOLD, "a", 1), "a", True)
        self.assert_holds(("possible", TOLD, "a", True), "a", False)
        self.assert_holds(("possible", TOLD, "", False), "", False)
        self.assert_holds(("impossible", TOLD, "", True), (), False)
        self.assert_holds(("impossible", TOLD, text_of(200), 200), (), True)
        self.assert_holds(("impossible", TOLD, text_of(201), 201), (), False)
        self.assert_holds(("impossible", TOLD, "a", 500), (), True)
        self.assert_holds(("impossible", TOLD, "a", 501), (), False)


class TextPapersTest(unittest.TestCase):
    def assert_holds(self, claim, paper, expected):
        self.assertIs(holds(claim, paper), expected, (claim, paper))

    def test_unlike(self):
        claim = RIGHT["unlike"][0]
        for paper, expected in (
            (".....0..", True), ("abcdefgh", True), ("........", False), ("...~~~..", True), ("", False), ("a", False),
            (".....0.", False), (".....0...", False), ("a" * 200, False), (".....0.A", False), (".....0. ", False),
        ):
            self.assert_holds(claim, paper, expected)
        self.assert_holds(("unlike", TOLD, TOLD), ".....0..", False)
        self.assert_holds(("unlike", TOLD, TOLD * 2), "abcdefghi", False)

    def test_unlike_with_200_and_201_signs(self):
        claim = ("unlike", ((40, 1, 0, ""),), ((40, 0, 1, ""),))
        self.assert_holds(claim, "a" + "b" * 199, True)
        self.assert_holds(claim, "a" + "b" * 200, False)
        self.assert_holds(claim, "a" + "b" * 399, False)
        self.assert_holds(claim, "b" * 200, False)

    def test_unstable(self):
        claim = RIGHT["unstable"][0]
        for paper, expected in (("", False), (".", True), ("a", True), ("~", True), ("a~", False), ("A", False)):
            self.assert_holds(claim, paper, expected)
        self.assert_holds(claim, text_of(200), False)
        self.assert_holds(("unstable", TOLD), "abcdefghi", False)
        claim = ("unstable", ((2, 4, 0, "~"),))
        self.assert_holds(claim, "ab", False)
        self.assert_holds(claim, "abc", True)

    def test_unstable_with_200_and_201_signs(self):
        row = one(0, 1, 0, "") + one(0, 0, 1, "a")
        self.assert_holds(("unstable", told_of(row)), "b" * 200, True)
        self.assert_holds(("unstable", told_of(row)), "b" * 201, False)

    def test_possible(self):
        claim = RIGHT["possible"][0]
        for paper, expected in (
            ("abcdefgij", True), ("abc....ij", True), ("abc~~~~ij", True), ("abc...ij", False), ("abcdefghij", False),
            ("abcdefgik", False), ("xbcdefgij", False), ("", False), ("abcDefgij", False), ("abc efgij", False),
        ):
            self.assert_holds(claim, paper, expected)
        self.assert_holds(with_part(claim, 3, 8), "abc...ij", True)
        self.assert_holds(with_part(claim, 3, 8), "abcdefij", False)
        self.assert_holds(with_part(claim, 2, "abc..ij"), "abcdefgij", False)
        self.assert_holds(("possible", TOLD, "", 0), "", True)
        self.assert_holds(("possible", ((0, 0, 0, ""),), "", 3), "abc", True)

    def test_possible_up_to_500_signs(self):
        for length in (200, 201, 400, 499, 500):
            claim = ("possible", TOLD, "abc...ij", length)
            paper = "abc" + "x" * (length - 5) + "ij"
            self.assert_holds(claim, paper, True)
            self.assert_holds(claim, paper + "j", False)
            self.assert_holds(claim, paper[:3] + "X" + paper[4:], False)
        self.assert_holds(("possible", TOLD, "abc...ij", 501), "abc" + "x" * 496 + "ij", False)
        self.assert_holds(("possible", TOLD, "abc...ij", 500), "abc" + "x" * 496 + "ij", False)

    def test_confused(self):
        claim = RIGHT["confused"][0]
        pair = ("abcdefghij", "abc...ij")
        for paper, expected in (
            (pair, True), (pair[::-1], True), (pair + pair, False), (pair[:1], False), (list(pair), False), (pair[0], False),
            ((pair[0], pair[0]), False), (("abc", "abc"), False), (("abc", "abd"), False), ((pair[0], "abcdefghik"), False),
            ((pair[0], None), False), ((None, pair[1]), False), ((pair[0], list(pair[1])), False), ((pair, pair), False),
            ((pair[0], "abcDefghij"), False), (("abcDefghij", pair[1]), False), (("", ""), False), ((), False), (("", "a"), False), (pair + ("abcxyz..ij",), False),
            ({pair[0]: pair[1]}, False), (set(pair), False), ((b"a", b"b"), False),
        ):
            self.assert_holds(claim, paper, expected)
        self.assert_holds(("confused", ((0, 0, 0, ""),)), ("", "a"), True)

    def test_confused_with_200_and_201_signs(self):
        claim = RIGHT["confused"][0]
        self.assert_holds(claim, ("a" * 200, "a" * 199), True)
        self.assert_holds(claim, ("a" * 200, "a" * 201), False)
        self.assert_holds(claim, ("a" * 201, "a" * 200), False)

    def test_as_modelled(self):
        drawn = random.Random(51)
        rows = small_rows(drawn, 40, 4, ("", ".", "a", "~~")) + great_rows(drawn, 10)
        texts = list(texts_up_to(3, ".a~")) + [text_of(length) for length in (39, 40, 41, 80, 81, 200)]
        for row in rows:
            other = drawn.choice(rows)
            shown = {text: modelled_row(row, text) for text in texts}
            for text in texts:
                self.assert_holds(("unlike", told_of(row), told_of(other)), text, shown[text] != modelled_row(other, text))
                self.assert_holds(("unstable", told_of(row)), text, modelled_row(row, shown[text]) != shown[text])
                self.assert_holds(("possible", told_of(row), shown[text], len(text)), text, True)
                wrong = drawn.choice(texts)
                expected = len(wrong) == len(text) and shown[wrong] == shown[text]
                self.assert_holds(("possible", told_of(row), shown[text], len(text)), wrong, expected)
                expected = wrong != text and shown[wrong] == shown[text]
                self.assert_holds(("confused", told_of(row)), (text, wrong), expected)


class FoundOutTest(unittest.TestCase):
    """Claims for which the checker finds out by itself."""

    def assert_holds(self, claim, expected):
        self.assertIs(holds(claim, ()), expected, claim)

    def test_alike(self):
        for row, other, expected in (
            (one(5, 5, 0, ""), one(4, 5, 0, ""), True), (one(5, 5, 0, ""), one(9, 5, 0, ""), False), (ROW, ROW * 4, True),
            (ROW, one(8, 3, 2, ".."), False), (ROW, one(8, 3, 2, "..~"), False), (one(0, 40, 0, ""), one(40, 40, 0, ""), True),
            (one(40, 40, 0, ""), one(40, 0, 40, ""), False), (one(0, 0, 0, ""), one(1, 0, 0, ""), False),
        ):
            self.assert_holds(("alike", told_of(row), told_of(other)), expected)

    def test_alike_but_for_long_texts(self):
        row, other = one(40, 20, 17, "..."), one(40, 20, 17, "..~")
        self.assertEqual(len(first_unlike(row, other)), 41)
        self.assert_holds(("alike", told_of(row), told_of(other)), False)
        row = one(40, 40, 40, "") + one(40, 0, 40, "")
        self.assert_holds(("alike", told_of(row), told_of(one(40, 0, 40, ""))), True)
        row, other = one(40, 2, 0, ""), one(40, 1, 40, "") + one(40, 2, 0, "")
        self.assertEqual(len(first_unlike(row, other)), 42)
        self.assert_holds(("alike", told_of(row), told_of(other)), False)

    def test_alike_as_tried(self):
        drawn = random.Random(52)
        texts = list(texts_up_to(5, ".a~")) + [text_of(length) for length in (6, 7, 8, 30)]
        rows = small_rows(drawn, 80, 2, ("", ".", "a"))
        shown = [[modelled_row(row, text) for text in texts] for row in rows]
        alike = 0
        for (row, forms), (other, other_forms) in itertools.product(list(zip(rows, shown)), repeat=2):
            self.assert_holds(("alike", told_of(row), told_of(other)), forms == other_forms)
            alike += forms == other_forms and row != other
        self.assertGreater(alike, 10)

    def test_stable(self):
        for row, expected in (
            (ROW, True), (one(0, 2, 0, "~"), False), (one(38, 40, 40, ""), False), (one(39, 40, 40, ""), True),
            (one(0, 1, 0, "") + one(0, 0, 1, "."), False), (one(40, 20, 17, "..."), True), (one(0, 0, 0, "abc"), True),
        ):
            self.assert_holds(("stable", told_of(row)), expected)
            self.assertIs(first_unstable(row) is None, expected)

    def test_stable_as_tried(self):
        drawn = random.Random(53)
        texts = list(texts_up_to(5, ".a~")) + [text_of(length) for length in (6, 7, 8, 30)]
        told = []
        for row in small_rows(drawn, 150, 2, ("", ".", "a", "~a")):
            expected = all(modelled_row(row, modelled_row(row, text)) == modelled_row(row, text) for text in texts)
            self.assert_holds(("stable", told_of(row)), expected)
            told.append(expected)
        self.assertGreater(told.count(True), 20)
        self.assertGreater(told.count(False), 20)

    def test_unstable_only_for_long_texts(self):
        row = one(40, 40, 1, "") + one(40, 0, 40, "") + one(39, 40, 1, "")
        self.assertGreaterEqual(len(first_unstable(row)), 40)
        self.assert_holds(("stable", told_of(row)), False)

    def test_impossible(self):
        for shown, length, expected in (
            ("abcd", 9, True), ("abcd", 4, False), ("abcd", 3, True), ("abcd", 5, True), ("abc...ij", 8, False),
            ("abc...ij", 9, False), ("abc...ij", 500, False), ("abc..~ij", 8, False), ("abc..~ij", 9, True), ("", 0, False),
            ("", 1, True), ("a", 0, True), ("abc...ijk", 500, True), ("a" * 200, 200, True),
        ):
            self.assert_holds(("impossible", TOLD, shown, length), expected)

    def test_impossible_as_tried(self):
        drawn = random.Random(54)
        for row in small_rows(drawn, 30, 3, ("", ".", "a", "~~")):
            for length in (0, 1, 2):
                forms = {modelled_row(row, text) for text in texts_up_to(length) if len(text) == length}
                some = drawn.sample(sorted(forms), min(5, len(forms)))
                for shown in [*some, *texts_up_to(2, ".a~"), *[shown + "a" for shown in some]]:
                    self.assert_holds(("impossible", told_of(row), shown, length), shown not in forms)

    def test_impossible_where_head_and_tail_overlap(self):
        told = told_of(one(0, 3, 3, ""))
        for length, expected in ((3, False), (4, True), (5, False), (6, False), (7, False), (500, False)):
            self.assert_holds(("impossible", told, "abaaba", length), expected)
            self.assertIs(number_of(((one(0, 3, 3, ""), "abaaba"),), length) == 0, expected)

    def test_a_claim_and_its_opposite(self):
        drawn = random.Random(55)
        rows = great_rows(drawn, 60)
        for row in rows:
            other = drawn.choice(rows)
            self.assert_holds(("alike", told_of(row), told_of(other)), are_alike(row, other))
            self.assert_holds(("alike", told_of(row), told_of(row)), True)
            self.assert_holds(("unlike", told_of(row), told_of(other)), False)
            self.assert_holds(("unstable", told_of(row)), False)
            self.assert_holds(("possible", told_of(row), "", 0), False)
            self.assert_holds(("confused", told_of(row)), False)

    def test_every_sign(self):
        for sign in SIGNS:
            self.assert_holds(("impossible", TOLD, sign, 1), False)
            self.assert_holds(("alike", ((1, 0, 0, sign),), ((1, 0, 0, sign),)), True)
        self.assertEqual(Shortener(1, 0, 0, "~").told, (1, 0, 0, "~"))


if __name__ == "__main__":
    unittest.main()
