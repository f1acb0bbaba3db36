import random
import unittest

from shownshort.errors import Busy, InvalidDeeds, InvalidText, NothingToUndo, TooMany, UnknownName
from shownshort.names import Namer
from shownshort.shelves import Shelf, attempt, within
from tests.helper import (
    NAMER, NO_DEEDS, NO_NAMES, NO_TEXTS, RULES, TROUBLE, ModelledShelf, assert_refused, look, shelf_with, undone,
)


class Stopped(Exception):
    """An error that the package knows nothing of."""


class Leaving(BaseException):
    """An error that is not even an Exception."""


def busy_calls(shelf):
    """All calls that raise Busy in the course of `do_all`, whatever they are given."""
    calls = [shelf.undo, shelf.trial, shelf.do_all]
    for given in ("a", "b", None, 3, [], object()):
        calls.append(lambda given=given: shelf.add(given))
        calls.append(lambda given=given: shelf.remove(given))
        calls.append(lambda given=given: shelf.do_all(given))
        calls.append(lambda given=given: attempt(shelf, given))
        calls.append(lambda given=given: attempt(act=given, shelf=shelf))
    calls.append(lambda: shelf.do_all(("add", "a"), ("remove", "a")))
    calls.append(lambda: shelf.do_all(("add", "a"), watch=lambda shelf, place: None))
    calls.append(lambda: attempt(shelf, len))
    return calls


class DeedsTest(unittest.TestCase):
    def test_none_one_and_several(self):
        shelf = Shelf(NAMER)
        self.assertIsNone(shelf.do_all())
        self.assertEqual((shelf.texts, shelf.names), ((), ()))
        self.assertRaises(NothingToUndo, shelf.undo)
        self.assertIsNone(shelf.do_all(("add", "a")))
        self.assertEqual(shelf.names, ("a",))
        self.assertIsNone(shelf.do_all(("add", "a"), ("add", "b"), ("remove", "a")))
        self.assertEqual((shelf.texts, shelf.names), (("a", "b"), ("a~2", "b")))
        self.assertIsNone(shelf.do_all(watch=None))
        self.assertIs(shelf.busy, False)

    def test_texts_that_come_and_go_in_the_same_call(self):
        shelf = Shelf(Namer("count", 6))
        shelf.do_all(("add", "a"), ("add", "a"), ("remove", "a"), ("add", "a"), ("remove", "a~2"), ("add", ""), ("remove", ""))
        self.assertEqual((shelf.texts, shelf.names), (("a",), ("a~2",)))
        shelf.do_all(("remove", "a~2"))
        self.assertEqual(shelf.names, ())

    def test_more_than_twenty_deeds(self):
        shelf = Shelf(NAMER)
        shelf.do_all(*[("add", "a"), ("remove", "a")] * 30)
        self.assertEqual(shelf.names, ())
        self.assertEqual(len(undone(shelf)), 61)
        shelf.do_all(*[("add", "a")] * 20)
        self.assertEqual(len(shelf), 20)

    def test_they_are_single_deeds_for_undo(self):
        shelf = shelf_with("free", 6, ("a",))
        shelf.do_all(("add", "b"), ("remove", "a"), ("add", "c"))
        told = [("b", "c"), ("b",), ("a", "b"), ("a",), ()]
        self.assertEqual(undone(shelf), [(names, names) for names in told])
        shelf.undo()
        shelf.undo()
        self.assertEqual(shelf.names, ("a", "b"))
        shelf.do_all(("add", "d"))
        shelf.undo()
        self.assertEqual(shelf.names, ("a", "b"))

    def test_the_same_as_single_deeds(self):
        for rule in RULES:
            drawn = random.Random(rule)
            shelf, model = Shelf(Namer(rule, 6)), ModelledShelf(Namer(rule, 6))
            for _ in range(200):
                deeds = []
                for _ in range(drawn.randint(0, 4)):
                    if model.there and (len(model.there) > 15 or drawn.random() < 0.4):
                        deeds.append(("remove", drawn.choice(model.names)))
                        model.remove(deeds[-1][1])
                    else:
                        deeds.append(("add", drawn.choice(TROUBLE)))
                        model.add(deeds[-1][1])
                shelf.do_all(*deeds)
                self.assertEqual((shelf.texts, shelf.names), (model.texts, model.names))
            while model.deeds:
                model.undo()
                shelf.undo()
                self.assertEqual((shelf.texts, shelf.names), (model.texts, model.names))
            self.assertRaises(NothingToUndo, shelf.undo)

    def test_watch_is_given_by_name_only(self):
        shelf = Shelf(NAMER)
        watched = []
        assert_refused(self, InvalidDeeds, "index", 1, shelf.do_all, ("add", "a"), lambda shelf, place: watched.append(place))
        shelf.do_all(("add", "a"), watch=lambda shelf, place: watched.append(place))
        self.assertEqual(watched, [0])
        self.assertRaises(TypeError, shelf.do_all, deeds=(("add", "a"),))


class RefusedTest(unittest.TestCase):
    def setUp(self):
        self.shelf = shelf_with("free", 6, ("a", "a", "b"))
        self.shelf.remove("a")
        self.shelf.add("c")
        self.shelf.undo()
        self.before = (look(self.shelf), undone(self.shelf))

    def assert_as_before(self):
        self.assertEqual((look(self.shelf), undone(self.shelf)), self.before)

    def test_deeds_of_no_form(self):
        watched = []
        for wrong in NO_DEEDS:
            with self.subTest(repr(wrong)):
                for place in (0, 1, 4):
                    deeds = [("add", "a"), ("remove", "b"), ("add", "c"), ("add", "d")][:place]
                    given = (*deeds, wrong, ("add", "e"), None)
                    assert_refused(self, InvalidDeeds, "index", place, self.shelf.do_all, *given)
                    assert_refused(
                        self, InvalidDeeds, "index", place, self.shelf.do_all, *given, watch=lambda *told: watched.append(told),
                    )
                    self.assert_as_before()
        self.assertEqual(watched, [])

    def test_forms_are_looked_at_before_any_deed_is_done(self):
        given = (("add", "A"), ("remove", "x"), ("add", None), ("undo", "a"))
        assert_refused(self, InvalidDeeds, "index", 3, self.shelf.do_all, *given)
        self.assert_as_before()

    def test_the_error_of_the_first_deed_that_raises_one(self):
        for wrong in NO_TEXTS:
            with self.subTest(repr(wrong)):
                given = (("add", "x"), ("remove", "a~2"), ("add", wrong), ("remove", "none"), ("add", "a"))
                assert_refused(self, InvalidText, "value", wrong, self.shelf.do_all, *given)
                self.assert_as_before()
        for wrong in NO_NAMES:
            with self.subTest(repr(wrong)):
                given = (("remove", "b"), ("add", "x"), ("remove", "x"), ("remove", wrong), ("add", "A"))
                assert_refused(self, UnknownName, "value", wrong, self.shelf.do_all, *given)
                self.assert_as_before()
        assert_refused(self, InvalidText, "value", None, self.shelf.do_all, ("add", None))
        assert_refused(self, UnknownName, "value", None, self.shelf.do_all, ("remove", None))
        self.assert_as_before()

    def test_too_many(self):
        deeds = [("add", "x")] * 19
        with self.assertRaises(TooMany) as caught:
            self.shelf.do_all(*deeds)
        self.assertEqual(caught.exception.limit, 20)
        self.assert_as_before()
        assert_refused(self, InvalidText, "value", "A", self.shelf.do_all, *deeds[:18], ("add", "A"))
        self.assert_as_before()
        self.shelf.do_all(*deeds[:18])
        self.assertEqual(len(self.shelf), 20)
        self.shelf.do_all(("remove", "b"), ("add", "b"))
        self.assertRaises(TooMany, self.shelf.do_all, ("add", "b"))
        self.assertEqual(len(self.shelf), 20)

    def test_a_name_that_goes_in_the_call_is_unknown_then(self):
        assert_refused(self, UnknownName, "value", "b", self.shelf.do_all, ("remove", "b"), ("remove", "b"))
        self.assert_as_before()

    def test_afterwards_all_goes_on(self):
        self.assertRaises(InvalidText, self.shelf.do_all, ("add", "x"), ("add", None))
        self.assertEqual(self.shelf.add("x"), "x")
        self.shelf.undo()
        self.shelf.undo()
        self.assertEqual(self.shelf.names, ("a", "a~2", "b"))


class WatchTest(unittest.TestCase):
    def setUp(self):
        self.shelf = shelf_with("free", 6, ("a", "b"))

    def test_after_every_deed_with_the_shelf_and_the_place(self):
        seen = []

        def watch(shelf, place):
            seen.append((shelf, place, shelf.texts, shelf.names, len(shelf), repr(shelf), shelf.busy, bool(shelf)))

        self.shelf.do_all(("add", "a"), ("remove", "a"), ("remove", "a~2"), ("remove", "b"), ("add", "c"), watch=watch)
        self.assertTrue(all(told[0] is self.shelf for told in seen))
        self.assertEqual([told[1:] for told in seen], [
            (0, ("a", "b", "a"), ("a", "b", "a~2"), 3, "Shelf(3 texts)", True, True),
            (1, ("b", "a"), ("b", "a~2"), 2, "Shelf(2 texts)", True, True),
            (2, ("b",), ("b",), 1, "Shelf(1 texts)", True, True),
            (3, (), (), 0, "Shelf(0 texts)", True, False),
            (4, ("c",), ("c",), 1, "Shelf(1 texts)", True, True),
        ])

    def test_without_deeds_it_is_not_called(self):
        self.shelf.do_all(watch=self.fail)

    def test_before_the_next_deed_is_looked_at(self):
        places = []
        with self.assertRaises(InvalidText):
            self.shelf.do_all(("add", "a"), ("add", "b"), ("add", None), watch=lambda shelf, place: places.append(place))
        self.assertEqual(places, [0, 1])
        self.assertEqual(self.shelf.names, ("a", "b"))

    def test_its_result_plays_no_part(self):
        for result in (None, False, True, 0, "stop", [], Busy(), ValueError("x")):
            self.shelf.do_all(("add", "c"), ("remove", "c"), watch=lambda shelf, place: result)
            self.assertEqual(self.shelf.names, ("a", "b"))

    def test_anything_callable_but_none(self):
        class Watcher:
            def __init__(self):
                self.places = []

            def __len__(self):
                return 0

            def __call__(self, shelf, place):
                self.places.append(place)

        watcher = Watcher()
        self.shelf.do_all(("add", "c"), ("add", "d"), watch=watcher)
        self.assertEqual(watcher.places, [0, 1])

    def test_its_errors_come_out(self):
        before = look(self.shelf), undone(self.shelf)
        errors = (
            Stopped("x"), Leaving("x"), KeyboardInterrupt(), StopIteration(), ValueError(), Busy(), UnknownName("a"),
            InvalidText("a"), TooMany(20), NothingToUndo(),
        )
        for error in errors:
            for at in (0, 1, 2):
                def watch(shelf, place):
                    if place == at:
                        raise error

                with self.subTest(repr(error), at=at):
                    with self.assertRaises(type(error)) as caught:
                        self.shelf.do_all(("add", "c"), ("remove", "a"), ("add", "a"), watch=watch)
                    self.assertIs(caught.exception, error)
                    self.assertEqual((look(self.shelf), undone(self.shelf)), before)

    def test_busy_in_the_course_of_the_call(self):
        for deeds in ([("add", "a")], [("add", "c"), ("remove", "a"), ("add", "a~2")], [("add", "c")] * 18):
            shelf = shelf_with("free", 6, ("a", "b"))

            def watch(held, place):
                before = look(shelf)
                for call in busy_calls(shelf):
                    self.assertRaises(Busy, call)
                    self.assertEqual(look(shelf), before)
                    self.assertIs(shelf.busy, True)

            shelf.do_all(*deeds, watch=watch)
            self.assertIs(shelf.busy, False)
            self.assertEqual(len(undone(shelf)), 3 + len(deeds))
            self.assertEqual(shelf.add("z") if len(shelf) < 20 else "z", "z")

    def test_busy_that_comes_out_ends_the_call(self):
        before = look(self.shelf), undone(self.shelf)
        for number in range(len(busy_calls(self.shelf))):
            watch = lambda shelf, place: busy_calls(shelf)[number]()
            self.assertRaises(Busy, self.shelf.do_all, ("add", "c"), ("add", "d"), watch=watch)
            self.assertEqual((look(self.shelf), undone(self.shelf)), before)

    def test_another_shelf_is_not_busy(self):
        other = Shelf(NAMER)

        def watch(shelf, place):
            self.assertIs(other.busy, False)
            other.do_all(("add", "x"), watch=lambda inner, at: self.assertRaises(Busy, shelf.add, "x"))
            self.assertIs(shelf.busy, True)

        self.shelf.do_all(("add", "c"), ("add", "d"), watch=watch)
        self.assertEqual((self.shelf.names, other.names), (("a", "b", "c", "d"), ("x", "x~2")))

    def test_all_else_works(self):
        trial = self.shelf.trial()

        def watch(shelf, place):
            self.assertEqual(shelf.namer, Namer("free", 6))
            self.assertEqual(within(trial, lambda held: (held.names, held.busy)), (shelf.names, True))
            self.assertEqual(shelf == shelf, True)
            self.assertEqual(shelf != Shelf(NAMER), True)

        self.shelf.do_all(("add", "c"), ("add", "d"), watch=watch)
        self.assertEqual(self.shelf.names, ("a", "b", "c", "d"))

    def test_not_busy_afterwards_also_behind_an_error(self):
        for deeds, watch in (
            ([("add", "c")], None), ([("add", None)], None), ([None], None), ([("add", "c")], lambda shelf: 1),
            ([("add", "c")], lambda shelf, place: 1 // 0), ([], None),
        ):
            try:
                self.shelf.do_all(*deeds, watch=watch)
            except (ValueError, TypeError, ZeroDivisionError):
                pass
            self.assertIs(self.shelf.busy, False)
            self.assertEqual(self.shelf.add("x"), "x")
            self.shelf.undo()


if __name__ == "__main__":
    unittest.main()
