import itertools
import random
import unittest

from shownshort.alike import first_unlike, first_unstable
from shownshort.certificates import certify_alike, certify_confused, certify_possible, certify_stable
from shownshort.checker import holds
from shownshort.errors import InvalidLength, InvalidRow, InvalidText
from shownshort.pairs import least_pair
from shownshort.shorteners import Shortener, show
from shownshort.views import number_of
from tests.helper import (
    NO_LENGTHS, NO_TEXTS, ROW, SHORT, assert_examples_hold, assert_refused, great_rows, modelled_row, one, small_rows, text_of,
    texts_up_to, wrong_rows,
)

EXAMPLES = r"""
>>> from shownshort.certificates import certify_alike, certify_confused, certify_possible
>>> from shownshort.checker import holds
>>> from shownshort.samples import sample_row
>>> from shownshort.shorteners import Shortener
>>> certify_alike(sample_row(), (Shortener(7, 3, 2, "..."),))
(('unlike', ((8, 3, 2, '...'),), ((7, 3, 2, '...'),)), '.....0..')
>>> [certify_confused(sample_row())[1], certify_possible(sample_row(), "abcd", 9), holds(("possible", ((8, 3, 2, "..."),), "abc...ij", 9), "abcdefgij"), holds(("stable", ((8, 3, 2, "..."),)), ())]
[('........', '.........'), (('impossible', ((8, 3, 2, '...'),), 'abcd', 9), ()), True, True]
"""

OPPOSITES = {
    "alike": "unlike", "unlike": "alike", "stable": "unstable", "unstable": "stable", "possible": "impossible",
    "impossible": "possible",
}


def told_of(row):
    return tuple(shortener.told for shortener in row)


def some_rows(drawn):
    return small_rows(drawn, 60, 4, ("", ".", "a", "~~")) + small_rows(drawn, 30, 12, ("", "~", "...")) + great_rows(drawn, 60)


class CertificateTest(unittest.TestCase):
    def assert_accepted(self, certificate):
        """Check that the checker is convinced of the claim and not, by the same paper, of its opposite."""
        self.assertIs(type(certificate), tuple)
        claim, paper = certificate
        self.assertIs(type(claim), tuple)
        self.assertIs(holds(claim, paper), True, certificate)
        if claim[0] in OPPOSITES:
            self.assertIs(holds((OPPOSITES[claim[0]], *claim[1:]), paper), False, certificate)
            # Nor by the paper that the opposite would need.
            if paper != ():
                self.assertIs(holds((OPPOSITES[claim[0]], *claim[1:]), ()), False, certificate)

    def assert_plain(self, value):
        """Check that a certificate consists of nothing but tuples, strings and integers."""
        self.assertIn(type(value), (tuple, str, int))
        if type(value) is tuple:
            for part in value:
                self.assert_plain(part)


class ExamplesTest(unittest.TestCase):
    def test_examples(self):
        assert_examples_hold(self, EXAMPLES)


class AlikeTest(CertificateTest):
    def test_alike(self):
        for row, other in (
            (ROW, ROW), (ROW, ROW * 4), (one(5, 5, 0, ""), one(4, 5, 0, "")), (one(0, 40, 0, ""), one(40, 40, 0, "")),
        ):
            certificate = certify_alike(row, other)
            self.assertEqual(certificate, (("alike", told_of(row), told_of(other)), ()))
            self.assert_accepted(certificate)

    def test_unlike(self):
        for row, other, text in (
            (ROW, one(7, 3, 2, "..."), ".....0.."), (one(7, 3, 2, "..."), ROW, ".....0.."), (ROW, one(8, 4, 1, "..."), ".......0."),
            (one(40, 40, 0, ""), one(40, 0, 40, ""), "." * 40 + "0"), (one(0, 0, 0, ""), one(1, 0, 0, ""), "."),
        ):
            certificate = certify_alike(row, other)
            self.assertEqual(certificate, (("unlike", told_of(row), told_of(other)), text))
            self.assert_accepted(certificate)

    def test_many(self):
        drawn = random.Random(61)
        rows = some_rows(drawn)
        words = []
        for row in rows:
            for other in (drawn.choice(rows), (row + row)[:4], row[:1]):
                certificate = certify_alike(row, other)
                self.assert_plain(certificate)
                self.assert_accepted(certificate)
                (word, *told), paper = certificate
                text = first_unlike(row, other)
                self.assertEqual((word, paper), ("alike", ()) if text is None else ("unlike", text))
                self.assertEqual(told, [told_of(row), told_of(other)])
                words.append(word)
        self.assertGreater(words.count("alike"), 50)
        self.assertGreater(words.count("unlike"), 50)

    def test_by_name_and_again(self):
        other = one(7, 3, 2, "...")
        expected = (("unlike", told_of(ROW), told_of(other)), ".....0..")
        self.assertEqual(certify_alike(other_row=other, row=ROW), expected)
        self.assertEqual(certify_alike(ROW, other_row=other), expected)
        self.assertEqual(certify_alike(ROW, other), certify_alike(ROW, other))


class StableTest(CertificateTest):
    def test_both(self):
        self.assertEqual(certify_stable(ROW), (("stable", told_of(ROW)), ()))
        self.assertEqual(certify_stable(one(0, 2, 0, "~")), (("unstable", ((0, 2, 0, "~"),)), "."))
        self.assertEqual(certify_stable(one(38, 40, 40, "")), (("unstable", ((38, 40, 40, ""),)), "." * 39))

    def test_many(self):
        words = []
        for row in some_rows(random.Random(62)):
            certificate = certify_stable(row)
            self.assert_plain(certificate)
            self.assert_accepted(certificate)
            text = first_unstable(row)
            expected = (("stable", told_of(row)), ()) if text is None else (("unstable", told_of(row)), text)
            self.assertEqual(certificate, expected)
            words.append(certificate[0][0])
        self.assertGreater(words.count("stable"), 20)
        self.assertGreater(words.count("unstable"), 20)

    def test_by_name_and_again(self):
        self.assertEqual(certify_stable(row=ROW), (("stable", told_of(ROW)), ()))
        self.assertEqual(certify_stable(ROW * 2), certify_stable(ROW * 2))


class PossibleTest(CertificateTest):
    def assert_certified(self, row, shown, length, possible):
        certificate = certify_possible(row, shown, length)
        self.assert_plain(certificate)
        claim, paper = certificate
        self.assertEqual(claim, ("possible" if possible else "impossible", told_of(row), shown, length))
        if possible:
            self.assertIs(type(paper), str)
            self.assertEqual(len(paper), length)
            self.assertEqual(modelled_row(row, paper), shown)
        else:
            self.assertEqual(paper, ())
        self.assert_accepted(certificate)
        self.assertEqual(certify_possible(row, shown, length), certificate)

    def test_around_the_limit(self):
        for length, possible in ((7, False), (8, True), (9, True), (10, True), (200, True), (201, True), (499, True), (500, True)):
            self.assert_certified(ROW, "abc...ij", length, possible)
        for length in (0, 3, 5, 8, 9, 200, 500):
            self.assert_certified(ROW, "abcd", length, False)
        self.assert_certified(ROW, "abcd", 4, True)
        self.assert_certified(ROW, "abcdefgh", 8, True)
        self.assert_certified(ROW, "abcdefgh", 9, False)

    def test_forms_that_the_row_never_shows(self):
        for shown in ("abcdefghi", text_of(200), "abcd..ij.", "a" * 9):
            for length in (0, 1, 8, 9, 10, 40, 41, 80, 81, 200, 500):
                self.assert_certified(ROW, shown, length, False)

    def test_length_0(self):
        for row in (ROW, ROW * 4, one(0, 0, 0, ""), one(0, 0, 0, "~"), one(40, 40, 40, "~~~")):
            self.assert_certified(row, "", 0, True)
            self.assert_certified(row, "~", 0, False)
            self.assert_certified(row, "a", 0, False)
        self.assert_certified(one(0, 0, 0, ""), "", 1, True)
        self.assert_certified(one(0, 0, 0, "~"), "", 1, False)

    def test_nothing_is_known_of_the_text(self):
        for length in (1, 40, 500):
            self.assert_certified(one(0, 0, 0, ""), "", length, True)
            self.assert_certified(one(0, 0, 0, "~~~"), "~~~", length, True)
            self.assert_certified(one(0, 0, 0, "~~~"), "~~.", length, False)

    def test_overlaps(self):
        for length, possible in ((2, False), (3, True), (4, False), (5, True), (6, True), (7, True), (500, True)):
            self.assert_certified(one(0, 3, 3, ""), "abaaba", length, possible)

    def test_as_tried(self):
        drawn = random.Random(63)
        for row in small_rows(drawn, 40, 3, ("", ".", "a", "~~")):
            for length in (0, 1, 2):
                forms = {modelled_row(row, text) for text in texts_up_to(length) if len(text) == length}
                some = drawn.sample(sorted(forms), min(4, len(forms)))
                for shown in {*some, *texts_up_to(2, ".a"), *[shown + "a" for shown in some]}:
                    self.assert_certified(row, shown, length, shown in forms)

    def test_with_great_numbers(self):
        drawn = random.Random(64)
        for row in great_rows(drawn, 60):
            for length in (0, 1, 39, 40, 41, 79, 80, 81, 200):
                text = "".join(drawn.choice("ab") for _ in range(length))
                self.assert_certified(row, show(row, text), length, True)
                for other in (length + 1, 42, 81, 500):
                    possible = number_of(((row, show(row, text)),), other) > 0
                    self.assert_certified(row, show(row, text), other, possible)

    def test_by_name(self):
        expected = (("impossible", told_of(ROW), "abcd", 9), ())
        self.assertEqual(certify_possible(length=9, shown="abcd", row=ROW), expected)
        self.assertEqual(certify_possible(ROW, length=9, shown="abcd"), expected)


class ConfusedTest(CertificateTest):
    def test_many(self):
        for row in [ROW, ROW * 4, one(0, 0, 0, ""), one(40, 40, 40, "~~~"), *some_rows(random.Random(65))]:
            certificate = certify_confused(row)
            self.assert_plain(certificate)
            self.assertEqual(certificate, (("confused", told_of(row)), least_pair(row)))
            self.assert_accepted(certificate)

    def test_by_name_and_again(self):
        expected = (("confused", told_of(ROW)), ("........", "........."))
        self.assertEqual(certify_confused(row=ROW), expected)
        self.assertEqual(certify_confused((Shortener(8, 3, 2, "..."),)), expected)


class RefusedTest(unittest.TestCase):
    def test_rows(self):
        for row, index in wrong_rows():
            with self.subTest(repr(row)):
                assert_refused(self, InvalidRow, "index", index, certify_alike, row, ROW)
                assert_refused(self, InvalidRow, "index", index, certify_alike, ROW, row)
                assert_refused(self, InvalidRow, "index", index, certify_alike, other_row=row, row=ROW)
                assert_refused(self, InvalidRow, "index", index, certify_stable, row)
                assert_refused(self, InvalidRow, "index", index, certify_stable, row=row)
                assert_refused(self, InvalidRow, "index", index, certify_possible, row, "abcd", 9)
                assert_refused(self, InvalidRow, "index", index, certify_possible, length=9, shown="abcd", row=row)
                assert_refused(self, InvalidRow, "index", index, certify_confused, row)
                assert_refused(self, InvalidRow, "index", index, certify_confused, row=row)

    def test_of_two_wrong_rows_the_first_one(self):
        wrong = {None: [SHORT], 0: (1,), 1: (SHORT, None), 2: ROW * 2 + ("a", 1)}
        for (index, row), (_, other) in itertools.permutations(wrong.items(), 2):
            assert_refused(self, InvalidRow, "index", index, certify_alike, row, other)
            assert_refused(self, InvalidRow, "index", index, certify_alike, other_row=other, row=row)

    def test_texts(self):
        for shown in NO_TEXTS:
            for length in (9, -1, 501, True, None):
                with self.subTest(repr(shown), length=length):
                    assert_refused(self, InvalidText, "value", shown, certify_possible, ROW, shown, length)
                    assert_refused(self, InvalidText, "value", shown, certify_possible, length=length, shown=shown, row=ROW)

    def test_lengths(self):
        for length in NO_LENGTHS:
            for shown in ("abcd", "", text_of(200)):
                with self.subTest(repr(length)):
                    assert_refused(self, InvalidLength, "value", length, certify_possible, ROW, shown, length)
                    assert_refused(self, InvalidLength, "value", length, certify_possible, length=length, shown=shown, row=ROW)

    def test_the_row_is_looked_at_first(self):
        for row, index in ((None, None), ([SHORT], None), ((), None), (ROW * 5, None), ((SHORT, 1), 1)):
            for shown, length in (("A", 9), (None, None), ("abcd", 501), ([], True)):
                assert_refused(self, InvalidRow, "index", index, certify_possible, row, shown, length)
                assert_refused(self, InvalidRow, "index", index, certify_possible, length=length, shown=shown, row=row)


if __name__ == "__main__":
    unittest.main()
