import itertools
import random
import unittest

from shownshort.errors import InvalidText, NotANamer, NothingToUndo, TooMany, UnknownName
from shownshort.names import Namer
from shownshort.shelves import Shelf
from tests.helper import (
    NAMER, NO_NAMERS, NO_NAMES, NO_TEXTS, RULES, TROUBLE, ModelledShelf, assert_equal_both_ways, assert_examples_hold,
    assert_refused, look, shelf_with, text_of, undone,
)

EXAMPLES = r"""
>>> from shownshort.names import Namer
>>> from shownshort.shelves import Shelf, attempt
>>> shelf = Shelf(Namer("count", 8))
>>> [shelf.add("a"), shelf.add("a"), shelf.remove("a"), shelf.add("a"), shelf.names, shelf.undo(), shelf.undo(), shelf.names, attempt(shelf, len), repr(shelf)]
['a', 'a~2', 'a', 'a~2', ('a~2', 'a~2'), None, None, ('a', 'a~2'), 2, 'Shelf(2 texts)']
"""


class ShelfTest(unittest.TestCase):
    def test_examples(self):
        assert_examples_hold(self, EXAMPLES)

    def test_a_new_one(self):
        for rule in RULES:
            namer = Namer(rule, 8)
            for shelf in (Shelf(namer), Shelf(namer=namer)):
                self.assertEqual(shelf.namer, namer)
                self.assertEqual((shelf.texts, shelf.names), ((), ()))
                self.assertIs(shelf.busy, False)
                self.assertEqual(len(shelf), 0)
                self.assertEqual(repr(shelf), "Shelf(0 texts)")
                self.assertIs(bool(shelf), False)
                self.assertRaises(NothingToUndo, shelf.undo)

    def test_no_namers(self):
        for wrong in NO_NAMERS:
            with self.subTest(repr(wrong)):
                assert_refused(self, NotANamer, "value", wrong, Shelf, wrong)
                assert_refused(self, NotANamer, "value", wrong, Shelf, namer=wrong)

    def test_with_each_number_of_texts(self):
        shelf = Shelf(NAMER)
        for many in range(1, 21):
            shelf.add("a")
            self.assertEqual(len(shelf), many)
            self.assertEqual(repr(shelf), f"Shelf({many} texts)")
            self.assertIs(bool(shelf), True)
            self.assertEqual(shelf.texts, ("a",) * many)
            self.assertEqual(len(set(shelf.names)), many)
            self.assertIs(type(shelf.texts), tuple)
            self.assertIs(type(shelf.names), tuple)
            self.assertIs(shelf.busy, False)

    def test_texts_and_names_in_the_order_in_which_they_came(self):
        shelf = shelf_with("free", 6, ("b", "a", "b", "c", "a", "abcdefgh"))
        self.assertEqual(shelf.texts, ("b", "a", "b", "c", "a", "abcdefgh"))
        self.assertEqual(shelf.names, ("b", "a", "b~2", "c", "a~2", "abcdef"))

    def test_an_empty_text_counts(self):
        shelf = shelf_with("free", 6, ("",))
        self.assertEqual((shelf.texts, shelf.names, len(shelf), bool(shelf)), (("",), ("",), 1, True))

    def test_what_was_read_stays_what_it_was(self):
        shelf = shelf_with("free", 6, ("a", "b"))
        texts, names = shelf.texts, shelf.names
        shelf.add("c")
        shelf.remove("a")
        self.assertEqual((texts, names), (("a", "b"), ("a", "b")))
        self.assertEqual(shelf.texts, ("b", "c"))

    def test_two_shelves_are_never_equal(self):
        for texts in ((), ("a",), ("a", "b")):
            one, other = shelf_with("free", 8, texts), shelf_with("free", 8, texts)
            assert_equal_both_ways(self, one, other, False)
            assert_equal_both_ways(self, one, one, True)
            for value in (texts, list(texts), len(one), repr(one), one.namer, None, (one,), Shelf, False, True, object()):
                assert_equal_both_ways(self, one, value, False)

    def test_what_one_does_leaves_the_other(self):
        namer = Namer("free", 8)
        one, other = Shelf(namer), Shelf(namer)
        one.add("a")
        one.add("a")
        self.assertEqual(other.names, ())
        self.assertRaises(NothingToUndo, other.undo)
        self.assertEqual(other.add("a"), "a")
        one.remove("a")
        self.assertEqual(other.names, ("a",))
        other.undo()
        self.assertEqual((one.names, other.names), (("a~2",), ()))
        with one.trial():
            other.add("b")
            one.do_all(("add", "c"), watch=lambda shelf, place: other.add("d"))
        self.assertEqual((one.names, other.names), (("a~2",), ("b", "d")))


class AddTest(unittest.TestCase):
    def assert_added(self, rule, width, told):
        shelf = Shelf(Namer(rule, width))
        self.assertEqual([shelf.add(text) for text, _ in told], [name for _, name in told])
        self.assertEqual(shelf.texts, tuple(text for text, _ in told))
        self.assertEqual(shelf.names, tuple(name for _, name in told))

    def test_count(self):
        self.assert_added("count", 6, [("a", "a"), ("a", "a~2"), ("a~2", "a~2"), ("a", "a~3"), ("", ""), ("", "~2")])
        self.assert_added("count", 6, [("abcdefg", "abcdef"), ("abcdefh", "abcdef~2"), ("abcdef", "abcdef~3")])

    def test_free(self):
        self.assert_added("free", 6, [("a", "a"), ("a", "a~2"), ("a~2", "a~2~2"), ("a", "a~3"), ("~2", "~2"), ("", ""), ("", "~3")])
        self.assert_added("free", 6, [("abcdefg", "abcdef"), ("abcdefh", "abcdef~2"), ("abcdef", "abcdef~3")])

    def test_tight(self):
        self.assert_added("tight", 6, [("a", "a"), ("a", "a~2"), ("a~2", "a~2~2"), ("a", "a~3")])
        self.assert_added("tight", 6, [("abcdefg", "abcdef"), ("abcdefh", "abcd~2"), ("abcd~2", "abcd~3"), ("abcde", "abcde")])

    def test_numbers_with_two_digits(self):
        numbers = ["", *[f"~{number}" for number in range(2, 21)]]
        for rule in ("count", "free"):
            self.assert_added(rule, 6, [("abcdefg", "abcdef" + number) for number in numbers])
        tight = ["abcdef"] + ["abcdef"[:6 - len(number)] + number for number in numbers[1:]]
        self.assert_added("tight", 6, [("abcdefg", name) for name in tight])
        self.assertEqual(tight[8:11], ["abcd~9", "abc~10", "abc~11"])

    def test_only_texts_that_are_there_count(self):
        shelf = shelf_with("count", 6, ("a", "a", "a"))
        shelf.remove("a~2")
        self.assertEqual(shelf.add("a"), "a~3")
        self.assertEqual(shelf.names, ("a", "a~3", "a~3"))
        for name in ("a", "a~3", "a~3"):
            shelf.remove(name)
        self.assertEqual(shelf.add("a"), "a")
        shelf = shelf_with("free", 6, ("a", "a", "a"))
        shelf.remove("a~2")
        self.assertEqual(shelf.add("a"), "a~2")
        shelf.remove("a")
        self.assertEqual(shelf.add("a"), "a")
        self.assertEqual(shelf.names, ("a~3", "a~2", "a"))
        shelf = shelf_with("tight", 6, ("abcdef",) * 3)
        shelf.remove("abcd~2")
        self.assertEqual(shelf.add("abcde"), "abcde")
        self.assertEqual(shelf.add("abcde"), "abcd~2")
        self.assertEqual(shelf.names, ("abcdef", "abcd~3", "abcde", "abcd~2"))

    def test_a_name_never_changes(self):
        shelf = shelf_with("free", 6, ("a", "a", "a"))
        shelf.remove("a")
        self.assertEqual((shelf.texts, shelf.names), (("a", "a"), ("a~2", "a~3")))
        shelf.add("b")
        self.assertEqual(shelf.names[:2], ("a~2", "a~3"))

    def test_by_name(self):
        shelf = Shelf(NAMER)
        self.assertEqual(shelf.add(text="abc"), "abc")
        self.assertEqual(shelf.remove(name="abc"), "abc")

    def test_no_texts(self):
        for rule in RULES:
            shelf = shelf_with(rule, 6, ("a", "b"))
            shelf.remove("a")
            before, earlier = look(shelf), undone(shelf)
            for wrong in NO_TEXTS:
                with self.subTest(rule, wrong=repr(wrong)):
                    assert_refused(self, InvalidText, "value", wrong, shelf.add, wrong)
                    assert_refused(self, InvalidText, "value", wrong, shelf.add, text=wrong)
                    self.assertEqual((look(shelf), undone(shelf)), (before, earlier))

    def test_200_signs_are_let_and_201_are_not(self):
        shelf = Shelf(Namer("tight", 40))
        self.assertEqual(shelf.add(text_of(200)), text_of(40))
        with self.assertRaises(InvalidText) as caught:
            shelf.add(text_of(201))
        self.assertEqual(caught.exception.value, text_of(201))

    def test_too_many(self):
        for rule in RULES:
            shelf = shelf_with(rule, 6, [text_of(number) for number in range(20)])
            before, earlier = look(shelf), undone(shelf)
            for text in ("a", "", text_of(3), text_of(200)):
                with self.assertRaises(TooMany) as caught:
                    shelf.add(text)
                self.assertEqual(caught.exception.limit, 20)
                self.assertEqual((look(shelf), undone(shelf)), (before, earlier))
            for wrong in NO_TEXTS:
                assert_refused(self, InvalidText, "value", wrong, shelf.add, wrong)
            self.assertEqual((look(shelf), undone(shelf)), (before, earlier))

    def test_when_one_has_gone_one_more_is_let(self):
        shelf = shelf_with("free", 6, ("a",) * 20)
        shelf.remove("a~7")
        self.assertEqual(shelf.add("a"), "a~7")
        self.assertRaises(TooMany, shelf.add, "a")
        shelf.undo()
        self.assertEqual(shelf.add("b"), "b")
        self.assertRaises(TooMany, shelf.add, "a")
        shelf.undo()
        shelf.undo()
        self.assertEqual(shelf.names[6], "a~7")
        self.assertRaises(TooMany, shelf.add, "a")


class RemoveTest(unittest.TestCase):
    def test_the_text_comes_out(self):
        shelf = shelf_with("free", 6, ("abcdefgh", "abcdefxy", "abc"))
        self.assertEqual(shelf.remove("abcdef~2"), "abcdefxy")
        self.assertEqual((shelf.texts, shelf.names), (("abcdefgh", "abc"), ("abcdef", "abc")))
        self.assertEqual(shelf.remove("abcdef"), "abcdefgh")
        self.assertEqual(shelf.remove("abc"), "abc")
        self.assertEqual((shelf.texts, shelf.names), ((), ()))

    def test_of_several_equal_names_the_one_that_came_first_goes(self):
        shelf = shelf_with("count", 6, ("a", "a", "a~2", "b"))
        self.assertEqual(shelf.names, ("a", "a~2", "a~2", "b"))
        self.assertEqual(shelf.remove("a~2"), "a")
        self.assertEqual((shelf.texts, shelf.names), (("a", "a~2", "b"), ("a", "a~2", "b")))
        self.assertEqual(shelf.remove("a~2"), "a~2")
        self.assertEqual(shelf.names, ("a", "b"))
        self.assertRaises(UnknownName, shelf.remove, "a~2")
        shelf = shelf_with("count", 6, ("a~2", "a", "a"))
        self.assertEqual(shelf.remove("a~2"), "a~2")
        self.assertEqual((shelf.texts, shelf.names), (("a", "a"), ("a", "a~2")))

    def test_the_empty_name(self):
        shelf = Shelf(NAMER)
        assert_refused(self, UnknownName, "value", "", shelf.remove, "")
        shelf.add("")
        self.assertEqual(shelf.remove(""), "")
        assert_refused(self, UnknownName, "value", "", shelf.remove, "")

    def test_a_text_is_not_its_name(self):
        shelf = shelf_with("free", 6, ("abcdefgh", "abcdefgh"))
        assert_refused(self, UnknownName, "value", "abcdefgh", shelf.remove, "abcdefgh")

    def test_names_need_not_be_the_very_same_string(self):
        shelf = shelf_with("free", 6, ("ab", "ab"))
        self.assertEqual(shelf.remove("".join(["a", "b~", "2"])), "ab")

    def test_unknown_names(self):
        for texts in ((), ("a", "a"), ("a",) * 20):
            for rule in RULES:
                shelf = shelf_with(rule, 6, texts)
                before, earlier = look(shelf), undone(shelf)
                for wrong in NO_NAMES:
                    with self.subTest(rule, wrong=repr(wrong)):
                        assert_refused(self, UnknownName, "value", wrong, shelf.remove, wrong)
                        assert_refused(self, UnknownName, "value", wrong, shelf.remove, name=wrong)
                        self.assertEqual((look(shelf), undone(shelf)), (before, earlier))


class UndoTest(unittest.TestCase):
    def test_nothing_to_undo(self):
        shelf = Shelf(NAMER)
        for _ in range(2):
            self.assertRaises(NothingToUndo, shelf.undo)
            self.assertEqual(look(shelf)[1:3], ((), ()))
        shelf.add("a")
        self.assertIsNone(shelf.undo())
        self.assertRaises(NothingToUndo, shelf.undo)
        self.assertEqual(shelf.names, ())
        self.assertEqual(shelf.add("a"), "a")
        self.assertIsNone(shelf.undo())

    def test_one_by_one(self):
        shelf = shelf_with("free", 6, ("a", "b", "a", "c"))
        shelf.remove("b")
        shelf.remove("a")
        shelf.add("a")
        self.assertEqual(undone(shelf), [
            (("a", "c", "a"), ("a~2", "c", "a")),
            (("a", "c"), ("a~2", "c")),
            (("a", "a", "c"), ("a", "a~2", "c")),
            (("a", "b", "a", "c"), ("a", "b", "a~2", "c")),
            (("a", "b", "a"), ("a", "b", "a~2")),
            (("a", "b"), ("a", "b")),
            (("a",), ("a",)),
            ((), ()),
        ])

    def test_a_removed_text_comes_back_to_its_former_place(self):
        for place in range(5):
            shelf = shelf_with("free", 6, ("a", "a", "b", "a", "c"))
            texts, names = shelf.texts, shelf.names
            shelf.remove(names[place])
            self.assertEqual(shelf.names, names[:place] + names[place + 1:])
            shelf.undo()
            self.assertEqual((shelf.texts, shelf.names), (texts, names))

    def test_one_of_several_equal_names_comes_back(self):
        shelf = shelf_with("count", 6, ("a", "a", "a~2"))
        shelf.remove("a~2")
        shelf.undo()
        self.assertEqual((shelf.texts, shelf.names), (("a", "a", "a~2"), ("a", "a~2", "a~2")))

    def test_done_again_it_gets_the_same_name(self):
        for rule in RULES:
            shelf = shelf_with(rule, 6, ("abcdef", "abcdefg", "abcd~2"))
            shelf.remove("abcdef")
            name = shelf.add("abcdefgh")
            names = shelf.names
            shelf.undo()
            self.assertEqual(shelf.add("abcdefgh"), name)
            self.assertEqual(shelf.names, names)

    def test_only_deeds_in_force(self):
        shelf = shelf_with("free", 6, ("a", "b"))
        shelf.undo()
        shelf.add("c")
        shelf.undo()
        shelf.undo()
        self.assertEqual(shelf.names, ())
        self.assertRaises(NothingToUndo, shelf.undo)

    def test_as_modelled(self):
        for seed, (rule, width) in enumerate(itertools.product(RULES, (6, 7, 40))):
            drawn = random.Random(seed)
            for few in (2, 5, len(TROUBLE)):
                texts = drawn.sample(TROUBLE, few)
                shelf, model = Shelf(Namer(rule, width)), ModelledShelf(Namer(rule, width))
                for _ in range(300):
                    self.do_something(drawn, texts, shelf, model)
                    self.assertEqual((shelf.texts, shelf.names), (model.texts, model.names))
                    self.assertEqual(len(shelf), len(model.there))

    def do_something(self, drawn, texts, shelf, model):
        way = drawn.random()
        if way < 0.5:
            text = drawn.choice(texts)
            if len(model.there) == 20:
                self.assertRaises(TooMany, shelf.add, text)
            else:
                self.assertEqual(shelf.add(text), model.add(text))
        elif way < 0.75:
            if model.there:
                name = drawn.choice(model.names)
                self.assertEqual(shelf.remove(name), model.remove(name))
            else:
                self.assertRaises(UnknownName, shelf.remove, drawn.choice(texts))
        elif model.deeds:
            model.undo()
            self.assertIsNone(shelf.undo())
        else:
            self.assertRaises(NothingToUndo, shelf.undo)


if __name__ == "__main__":
    unittest.main()
