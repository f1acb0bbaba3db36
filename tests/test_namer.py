import itertools
import unittest

from shownshort.errors import InvalidRule, InvalidWidth
from shownshort.names import Namer
from tests.helper import NO_RULES, RULES, SHORT, assert_equal_both_ways, assert_refused

NO_WIDTHS = (
    5, 41, 0, -6, -1, 10 ** 19, -(10 ** 19), True, False, None, "", "8", b"8", (), (8,), [], [8], {}, {8: 8}, {8}, int,
    object(), SHORT, Namer("free", 8),
)


class NamerTest(unittest.TestCase):
    def test_properties(self):
        for rule in RULES:
            for width in range(6, 41):
                namer = Namer(rule, width)
                self.assertEqual((namer.rule, namer.width), (rule, width))
                self.assertIs(type(namer.rule), str)
                self.assertIs(type(namer.width), int)

    def test_made_by_keyword(self):
        namer = Namer(width=40, rule="tight")
        self.assertEqual((namer.rule, namer.width), ("tight", 40))
        self.assertEqual(Namer("count", width=6), Namer("count", 6))

    def test_rules_need_not_be_the_very_same_string(self):
        self.assertEqual(Namer("".join(["fr", "ee"]), 8).rule, "free")

    def test_repr(self):
        self.assertEqual(repr(Namer("free", 8)), "Namer(free, 8)")
        self.assertEqual(repr(Namer("count", 6)), "Namer(count, 6)")
        self.assertEqual(repr(Namer(width=40, rule="tight")), "Namer(tight, 40)")

    def test_true(self):
        self.assertIs(bool(Namer("count", 6)), True)


class ComparedTest(unittest.TestCase):
    def test_equal_just_with_the_same_rule_and_width(self):
        told = list(itertools.product(RULES, (6, 7, 8, 40)))
        for one, other in itertools.product(told, repeat=2):
            with self.subTest(one=one, other=other):
                assert_equal_both_ways(self, Namer(*one), Namer(*other), one == other)

    def test_equal_to_nothing_else(self):
        for rule, width in itertools.product(RULES, (6, 40)):
            namer = Namer(rule, width)
            for other in (
                rule, width, (rule, width), [rule, width], repr(namer), None, True, False, 0, "", (), [], {}, b"", set(),
                (namer,), [namer], Namer, object(), SHORT, InvalidRule(rule), ValueError(namer),
            ):
                with self.subTest(namer, other=repr(other)):
                    assert_equal_both_ways(self, namer, other, False)


class RefusedTest(unittest.TestCase):
    def test_rules(self):
        for wrong in NO_RULES:
            with self.subTest(repr(wrong)):
                assert_refused(self, InvalidRule, "value", wrong, Namer, wrong, 8)
                assert_refused(self, InvalidRule, "value", wrong, Namer, width=8, rule=wrong)

    def test_widths(self):
        for wrong in NO_WIDTHS:
            for rule in RULES:
                with self.subTest(repr(wrong), rule=rule):
                    assert_refused(self, InvalidWidth, "value", wrong, Namer, rule, wrong)
                    assert_refused(self, InvalidWidth, "value", wrong, Namer, width=wrong, rule=rule)

    def test_the_rule_is_looked_at_first(self):
        for rule, width in itertools.product(NO_RULES, NO_WIDTHS):
            with self.subTest(repr(rule), width=repr(width)):
                assert_refused(self, InvalidRule, "value", rule, Namer, rule, width)
                assert_refused(self, InvalidRule, "value", rule, Namer, width=width, rule=rule)


if __name__ == "__main__":
    unittest.main()
