"""Every function, method and class of the interface with its arguments by name and in another order, and alone."""

import inspect
import itertools
import unittest

from shownshort import (
    alike, certificates, checker, console, errors, lists, names, pairs, reports, samples, shelves, shorteners, views,
)
from shownshort.names import Namer
from shownshort.shelves import Shelf
from shownshort.shorteners import Shortener
from tests.helper import NAMER, ROW, look, undone

OTHER = (Shortener(7, 3, 2, "..."), Shortener(5, 1, 1, "~"))
VIEWS = ((ROW, "abc...ij"), (OTHER, "a~j"))
TEXTS = ("alpha1", "alpha2", "alpha10", "alpha1")
CLAIM = ("possible", ((8, 3, 2, "..."),), "abc...ij", 9)

# For each entry that returns something, its arguments in the order of the interface.
CALLS = (
    (shorteners.Shortener, {"limit": 8, "head": 3, "tail": 2, "mark": "~"}),
    (shorteners.show, {"row": OTHER, "text": "abcdefghij"}),
    (shorteners.plan, {"row": OTHER, "length": 12}),
    (shorteners.widest, {"row": OTHER}),
    (samples.sample_row, {}),
    (samples.sample_namer, {}),
    (alike.first_unlike, {"row": ROW, "other_row": OTHER}),
    (alike.are_alike, {"row": ROW, "other_row": OTHER}),
    (alike.first_unstable, {"row": OTHER}),
    (alike.is_stable, {"row": OTHER}),
    (views.lengths, {"views": VIEWS}),
    (views.signs, {"views": VIEWS, "length": 12}),
    (views.number_of, {"views": VIEWS, "length": 12}),
    (views.only_text, {"views": VIEWS}),
    (views.least_text, {"views": VIEWS}),
    (pairs.least_pair, {"row": OTHER}),
    (pairs.number_shown, {"row": OTHER, "length": 12}),
    (lists.member, {"kind": "middle", "mark": "~", "width": 6}),
    (lists.groups, {"row": OTHER, "texts": TEXTS}),
    (lists.tells_apart, {"row": OTHER, "texts": TEXTS}),
    (lists.widths, {"kind": "middle", "mark": "~", "texts": TEXTS}),
    (lists.narrowest, {"kind": "middle", "mark": "~", "texts": TEXTS}),
    (lists.fitting, {"mark": "~", "seen": (("abcdef", "ab~ef"),)}),
    (names.Namer, {"rule": "tight", "width": 8}),
    (names.names, {"namer": NAMER, "texts": TEXTS}),
    (names.meeting, {"namer": Namer("count", 8), "texts": ("a", "a~2", "a")}),
    (names.possible_names, {"namer": NAMER, "texts": TEXTS, "place": 3}),
    (checker.holds, {"claim": CLAIM, "paper": "abcdefgij"}),
    (certificates.certify_alike, {"row": ROW, "other_row": OTHER}),
    (certificates.certify_stable, {"row": OTHER}),
    (certificates.certify_possible, {"row": OTHER, "shown": "a~j", "length": 12}),
    (certificates.certify_confused, {"row": OTHER}),
    (reports.plan_table, {"row": OTHER, "most": 12}),
    (reports.view_report, {"views": VIEWS}),
)


def all_ways(call, given):
    """What the call returns with its first arguments by position and the others by name, in each order."""
    listed = list(given)
    for many in range(len(listed) + 1):
        for order in itertools.permutations(listed[many:]):
            yield call(*[given[name] for name in listed[:many]], **{name: given[name] for name in order})


def shelf_with_texts():
    shelf = Shelf(Namer("count", 8))
    for text in ("a", "a", "b"):
        shelf.add(text)
    return shelf


class ByNameTest(unittest.TestCase):
    def test_functions_and_classes(self):
        for call, given in CALLS:
            with self.subTest(call.__name__):
                expected = call(*given.values())
                for told in all_ways(call, given):
                    self.assertEqual(told, expected)
                    self.assertIs(type(told), type(expected))

    def test_errors(self):
        for name, error in inspect.getmembers(errors, inspect.isclass):
            with self.subTest(name):
                attributes = list(inspect.signature(error).parameters) if "__init__" in vars(error) else []
                for attribute in attributes:
                    self.assertIs(getattr(error(**{attribute: ROW}), attribute), ROW)
                    self.assertIs(getattr(error(ROW), attribute), ROW)
                if not attributes:
                    error()

    def test_shelves(self):
        for told in all_ways(Shelf, {"namer": NAMER}):
            self.assertEqual((type(told), told.namer, told.texts), (Shelf, NAMER, ()))
        self.assertEqual(list(all_ways(shelf_with_texts().add, {"text": "b"})), ["b~2", "b~3"])
        for many in (0, 1):
            shelf = shelf_with_texts()
            self.assertEqual(shelf.remove("a~2") if many else shelf.remove(name="a~2"), "a")
            self.assertEqual(shelf.names, ("a", "b"))
        self.assertEqual(list(all_ways(shelves.attempt, {"shelf": shelf_with_texts(), "act": len})), [3] * 4)
        self.assertEqual(list(all_ways(shelves.within, {"trial": shelf_with_texts().trial(), "act": len})), [3] * 4)
        seen = []
        shelf = shelf_with_texts()
        shelf.do_all(("add", "c"), ("remove", "a"), watch=lambda held, place: seen.append((held.names, place)))
        self.assertEqual(seen, [(("a", "a~2", "b", "c"), 0), (("a~2", "b", "c"), 1)])

    def test_consoles(self):
        for told in all_ways(console.Console, {"namer": NAMER}):
            self.assertEqual(list(all_ways(told.say, {"line": "add a"})), ["a", "a~2"])


class UnchangedTest(unittest.TestCase):
    """Only shelves and consoles ever change, and those only by their own methods."""

    def test_what_was_given_is_as_before(self):
        for call, given in CALLS:
            before = repr(given)
            call(**given)
            self.assertEqual(repr(given), before, call.__name__)

    def test_equal_calls_return_equal_results(self):
        for call, given in CALLS:
            self.assertEqual(call(**given), call(**given), call.__name__)

    def test_a_shelf_is_only_changed_by_its_own_methods(self):
        shelf = shelf_with_texts()
        before = look(shelf), undone(shelf)
        for call, given in CALLS:
            call(**given)
        other = console.Console(shelf.namer)
        other.say("add a")
        self.assertEqual((look(shelf), undone(shelf)), before)


class TruthTest(unittest.TestCase):
    def test_what_has_a_length_is_true_unless_it_is_0(self):
        shelf = Shelf(NAMER)
        self.assertIs(bool(shelf), False)
        shelf.add("")
        self.assertIs(bool(shelf), True)

    def test_everything_else_is_true(self):
        shelf = Shelf(NAMER)
        for value in (Shortener(0, 0, 0, ""), NAMER, shelf.trial(), console.Console(NAMER), errors.Busy(), errors.InvalidRow(None)):
            self.assertIs(bool(value), True)


if __name__ == "__main__":
    unittest.main()
