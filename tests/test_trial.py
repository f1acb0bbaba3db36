import contextlib
import random
import unittest

from shownshort.errors import Busy, InvalidText, NotAShelf, NothingToUndo, TooMany, UnknownName
from shownshort.names import Namer
from shownshort.shelves import Shelf, attempt, within
from tests.helper import NAMER, NO_SHELVES, RULES, TROUBLE, assert_refused, look, shelf_with, undone


class Stopped(Exception):
    """An error that the package knows nothing of."""


class Leaving(BaseException):
    """An error that is not even an Exception."""


def do_much(shelf):
    """Let texts come and go, and take deeds back, also earlier ones."""
    shelf.add("a")
    shelf.remove(shelf.names[0])
    shelf.undo()
    shelf.undo()
    shelf.undo()
    shelf.do_all(("add", "x"), ("add", "x"), ("remove", "x"))
    shelf.add("y")
    return shelf.names


class TrialTest(unittest.TestCase):
    def setUp(self):
        self.shelf = shelf_with("free", 6, ("a", "a", "b"))
        self.shelf.remove("a")
        self.before = self.all_of(self.shelf)

    def all_of(self, shelf):
        return look(shelf), undone(shelf)

    def assert_as_before(self):
        self.assertEqual(self.all_of(self.shelf), self.before)

    def test_the_block_gets_the_shelf(self):
        with self.shelf.trial() as held:
            self.assertIs(held, self.shelf)
            self.assertEqual(look(held), self.before[0])
            self.assertEqual(held.add("c"), "c")
            self.assertEqual(self.shelf.names, ("a~2", "b", "c"))
        self.assert_as_before()

    def test_to_create_one_changes_nothing(self):
        trial = self.shelf.trial()
        self.assert_as_before()
        self.shelf.add("c")
        with trial:
            self.shelf.add("d")
        self.assertEqual(self.shelf.names, ("a~2", "b", "c"))

    def test_texts_that_come_and_names_that_go(self):
        with self.shelf.trial() as held:
            held.add("a")
            held.remove("b")
            held.remove("a~2")
            self.assertEqual(held.names, ("a",))
        self.assert_as_before()

    def test_deeds_taken_back_also_earlier_ones(self):
        with self.shelf.trial() as held:
            held.add("c")
            for _ in range(5):
                held.undo()
            self.assertEqual(held.names, ())
            self.assertRaises(NothingToUndo, held.undo)
            held.add("z")
        self.assert_as_before()
        self.shelf.undo()
        self.assertEqual(self.shelf.names, ("a", "a~2", "b"))

    def test_earlier_deeds_taken_back_and_others_done(self):
        with self.shelf.trial() as held:
            held.undo()
            held.undo()
            held.add("c")
            held.add("d")
            held.undo()
            self.assertEqual(held.names, ("a", "a~2", "c"))
        self.assert_as_before()

    def test_calls_of_do_all_in_the_block(self):
        seen = []
        with self.shelf.trial() as held:
            held.do_all(("add", "c"), ("remove", "b"), watch=lambda shelf, place: seen.append(shelf.names))
            self.assertRaises(InvalidText, held.do_all, ("add", "d"), ("add", None))
            self.assertEqual(held.names, ("a~2", "c"))
            self.assertIs(held.busy, False)
        self.assertEqual(seen, [("a~2", "b", "c"), ("a~2", "c")])
        self.assert_as_before()

    def test_left_by_an_error(self):
        for error in (Stopped("x"), Leaving("x"), KeyboardInterrupt(), GeneratorExit(), Busy(), UnknownName("a"), ValueError()):
            with self.subTest(repr(error)):
                with self.assertRaises(type(error)) as caught:
                    with self.shelf.trial() as held:
                        do_much(held)
                        raise error
                self.assertIs(caught.exception, error)
                self.assert_as_before()

    def test_left_by_an_error_of_the_shelf(self):
        with self.assertRaises(UnknownName):
            with self.shelf.trial() as held:
                held.add("c")
                held.remove("d")
        self.assert_as_before()

    def test_left_by_return_break_and_continue(self):
        def returning():
            with self.shelf.trial() as held:
                return held.add("c")

        self.assertEqual(returning(), "c")
        self.assert_as_before()
        for leave in range(3):
            with self.shelf.trial() as held:
                held.add("c")
                if leave:
                    continue
        self.assert_as_before()
        while True:
            with self.shelf.trial() as held:
                held.undo()
                break
        self.assert_as_before()

    def test_left_by_a_generator_that_is_given_up(self):
        def steps():
            with self.shelf.trial() as held:
                held.add("c")
                yield held.names

        going = steps()
        self.assertEqual(next(going), ("a~2", "b", "c"))
        going.close()
        self.assert_as_before()

    def test_a_trial_within_a_trial(self):
        with self.shelf.trial() as outer:
            outer.add("c")
            middle = self.all_of(outer)
            with outer.trial() as inner:
                do_much(inner)
            self.assertEqual(self.all_of(self.shelf), middle)
            outer.undo()
            with outer.trial() as inner:
                inner.undo()
            self.assertEqual(outer.names, ("a~2", "b"))
        self.assert_as_before()

    def test_entered_again_and_again(self):
        trial = self.shelf.trial()
        for text in ("c", "d", "c"):
            with trial as held:
                self.assertEqual(held.add(text), text)
                do_much(held)
            self.assert_as_before()
        self.shelf.add("e")
        with trial as held:
            self.assertEqual(held.names, ("a~2", "b", "e"))
            held.undo()
            held.undo()
        self.assertEqual(self.shelf.names, ("a~2", "b", "e"))

    def test_entered_inside_its_own_block(self):
        trial = self.shelf.trial()
        with trial as held:
            held.add("c")
            with trial:
                held.add("d")
                with trial:
                    held.undo()
                    held.undo()
                    held.undo()
                    self.assertEqual(held.names, ("a", "a~2", "b"))
                self.assertEqual(held.names, ("a~2", "b", "c", "d"))
                with trial:
                    held.remove("c")
                self.assertEqual(held.names, ("a~2", "b", "c", "d"))
            self.assertEqual(held.names, ("a~2", "b", "c"))
            held.undo()
            self.assertEqual(held.names, ("a~2", "b"))
        self.assert_as_before()

    def test_entered_inside_its_own_block_and_left_by_an_error(self):
        trial = self.shelf.trial()
        with trial as held:
            held.add("c")
            with self.assertRaises(Stopped):
                with trial:
                    held.add("d")
                    raise Stopped()
            self.assertEqual(held.names, ("a~2", "b", "c"))
        self.assert_as_before()

    def test_two_trials_of_one_shelf(self):
        one, other = self.shelf.trial(), self.shelf.trial()
        with one:
            self.shelf.add("c")
            with other:
                self.shelf.add("d")
                with one:
                    self.shelf.add("e")
                self.assertEqual(self.shelf.names, ("a~2", "b", "c", "d"))
            self.assertEqual(self.shelf.names, ("a~2", "b", "c"))
        self.assert_as_before()

    def test_full_shelves(self):
        shelf = shelf_with("tight", 6, ("abcdefg",) * 20)
        before = self.all_of(shelf)
        with shelf.trial() as held:
            self.assertRaises(TooMany, held.add, "a")
            held.remove("abc~10")
            self.assertEqual(held.add("a"), "a")
            self.assertRaises(TooMany, held.add, "a")
        self.assertEqual(self.all_of(shelf), before)
        self.assertRaises(TooMany, shelf.add, "a")
        shelf = shelf_with("tight", 6, ("abcdefg",) * 19)
        with shelf.trial() as held:
            held.add("a")
        self.assertEqual(shelf.add("abcdef"), "abc~20")

    def test_many_trials_in_each_other(self):
        for rule in RULES:
            drawn = random.Random(rule)
            shelf = Shelf(Namer(rule, 6))
            trials = [shelf.trial() for _ in range(3)]
            self.try_deeply(drawn, shelf, trials, 6)

    def try_deeply(self, drawn, shelf, trials, depth):
        for _ in range(3):
            before = self.all_of(shelf)
            with contextlib.suppress(Stopped), drawn.choice(trials) as held:
                for _ in range(drawn.randint(0, 4)):
                    way = drawn.random()
                    if way < 0.6 and len(held) < 20:
                        held.add(drawn.choice(TROUBLE))
                    elif way < 0.8 and len(held):
                        held.remove(drawn.choice(held.names))
                    elif len(undone(held)) > 1:
                        held.undo()
                if depth:
                    self.try_deeply(drawn, held, trials, depth - 1)
                if drawn.random() < 0.3:
                    raise Stopped()
            self.assertEqual(self.all_of(shelf), before)


class InTheCourseTest(unittest.TestCase):
    """Trials that were created before a call of `do_all` and are entered in its course."""

    def setUp(self):
        self.shelf = shelf_with("free", 6, ("a", "b"))
        self.trial = self.shelf.trial()

    def test_leaving_it_does_not_end_the_call(self):
        seen = []

        def watch(shelf, place):
            with self.trial as held:
                self.assertIs(held, self.shelf)
                self.assertIs(held.busy, True)
                for call in (held.undo, held.trial, held.do_all, lambda: held.add("x"), lambda: held.remove("a")):
                    self.assertRaises(Busy, call)
                with self.trial:
                    seen.append((place, held.names))
                self.assertIs(held.busy, True)
            self.assertIs(shelf.busy, True)
            self.assertRaises(Busy, shelf.add, "x")
            self.assertRaises(Busy, shelf.undo)

        self.shelf.do_all(("add", "c"), ("remove", "a"), ("add", "d"), watch=watch)
        self.assertEqual(seen, [(0, ("a", "b", "c")), (1, ("b", "c")), (2, ("b", "c", "d"))])
        self.assertEqual(self.shelf.names, ("b", "c", "d"))
        self.assertIs(self.shelf.busy, False)
        self.assertEqual([names for _, names in undone(self.shelf)][:4], [
            ("b", "c", "d"), ("b", "c"), ("a", "b", "c"), ("a", "b"),
        ])

    def test_left_by_an_error_in_the_course_of_the_call(self):
        def watch(shelf, place):
            with self.assertRaises(Stopped):
                with self.trial:
                    raise Stopped()
            self.assertIs(shelf.busy, True)

        self.shelf.do_all(("add", "c"), ("add", "d"), watch=watch)
        self.assertEqual(self.shelf.names, ("a", "b", "c", "d"))

    def test_an_error_that_leaves_the_block_and_the_call(self):
        def watch(shelf, place):
            with self.trial:
                if place:
                    raise Stopped()

        self.assertRaises(Stopped, self.shelf.do_all, ("add", "c"), ("add", "d"), watch=watch)
        self.assertEqual(self.shelf.names, ("a", "b"))
        self.assertIs(self.shelf.busy, False)
        self.assertEqual(len(undone(self.shelf)), 3)

    def test_entered_behind_one_deed_and_left_behind_another(self):
        def watch(shelf, place):
            if place == 0:
                self.trial.__enter__()
            if place == 2:
                self.trial.__exit__(None, None, None)
                self.assertEqual(shelf.names, ("a", "b", "c"))
                self.assertIs(shelf.busy, True)

        self.shelf.do_all(("add", "c"), ("add", "d"), ("remove", "a"), ("add", "e"), watch=watch)
        self.assertEqual(self.shelf.names, ("a", "b", "c", "e"))
        self.assertEqual([names for _, names in undone(self.shelf)][:3], [("a", "b", "c", "e"), ("a", "b", "c"), ("a", "b")])

    def test_entered_in_the_course_of_the_call_and_left_behind_it(self):
        self.shelf.do_all(
            ("add", "c"), ("add", "d"), watch=lambda shelf, place: self.trial.__enter__() if place == 0 else None,
        )
        self.shelf.add("e")
        self.trial.__exit__(None, None, None)
        self.assertEqual(self.shelf.names, ("a", "b", "c"))
        self.assertIs(self.shelf.busy, False)
        self.shelf.undo()
        self.assertEqual(self.shelf.names, ("a", "b"))

    def test_entered_before_the_call_and_left_in_its_course(self):
        self.trial.__enter__()
        self.shelf.add("x")

        def watch(shelf, place):
            if place == 1:
                self.trial.__exit__(None, None, None)
                self.assertIs(shelf.busy, True)

        self.shelf.do_all(("add", "c"), ("add", "d"), ("add", "e"), watch=watch)
        self.assertEqual(self.shelf.names, ("a", "b", "e"))
        self.assertIs(self.shelf.busy, False)

    def test_around_the_call(self):
        with self.trial:
            self.shelf.do_all(("add", "c"), watch=lambda shelf, place: within(self.trial, len))
            self.assertEqual(self.shelf.names, ("a", "b", "c"))
        self.assertEqual(self.shelf.names, ("a", "b"))


class WithinTest(unittest.TestCase):
    def setUp(self):
        self.shelf = shelf_with("count", 6, ("a", "a", "a~2"))
        self.before = look(self.shelf), undone(self.shelf)

    def assert_as_before(self):
        self.assertEqual((look(self.shelf), undone(self.shelf)), self.before)

    def test_what_act_returns(self):
        trial = self.shelf.trial()
        for result in (None, 0, False, "abc", [], (1, 2), Busy(), object()):
            self.assertIs(within(trial, lambda shelf: result), result)
            self.assertIs(attempt(self.shelf, lambda shelf: result), result)
        self.assertEqual(within(trial, len), 3)
        self.assertEqual(attempt(self.shelf, len), 3)
        self.assertIs(within(trial, lambda shelf: shelf), self.shelf)
        self.assertIs(attempt(self.shelf, lambda shelf: shelf), self.shelf)
        self.assert_as_before()

    def test_by_name(self):
        self.assertEqual(within(act=len, trial=self.shelf.trial()), 3)
        self.assertEqual(attempt(act=repr, shelf=self.shelf), "Shelf(3 texts)")

    def test_everything_is_as_before(self):
        for call in (lambda act: within(self.shelf.trial(), act), lambda act: attempt(self.shelf, act)):
            self.assertEqual(call(do_much), ("a", "a~2", "x~2", "y"))
            self.assert_as_before()
            self.assertEqual(call(lambda shelf: shelf.add("a")), "a~3")
            self.assertEqual(call(lambda shelf: shelf.remove("a~2")), "a")
            self.assertIsNone(call(lambda shelf: shelf.undo()))
            self.assert_as_before()

    def test_errors_come_out(self):
        for error in (Stopped("x"), Leaving("x"), KeyboardInterrupt(), NotAShelf(3), Busy()):
            def act(shelf):
                do_much(shelf)
                raise error

            for call in (lambda: within(self.shelf.trial(), act), lambda: attempt(self.shelf, act)):
                with self.assertRaises(type(error)) as caught:
                    call()
                self.assertIs(caught.exception, error)
                self.assert_as_before()
        assert_refused(self, UnknownName, "value", "c", attempt, self.shelf, lambda shelf: shelf.remove("c"))
        self.assert_as_before()

    def test_an_attempt_within_an_attempt(self):
        def act(shelf):
            shelf.add("b")
            self.assertEqual(attempt(shelf, do_much), ("a", "a~2", "a~2", "x~2", "y"))
            return shelf.names

        self.assertEqual(attempt(self.shelf, act), ("a", "a~2", "a~2", "b"))
        self.assert_as_before()

    def test_within_in_the_course_of_do_all(self):
        trial = self.shelf.trial()
        seen = []
        self.shelf.do_all(("add", "b"), ("add", "c"), watch=lambda shelf, place: seen.append(within(trial, len)))
        self.assertEqual(seen, [4, 5])
        self.assertEqual(self.shelf.names, ("a", "a~2", "a~2", "b", "c"))

    def test_attempt_in_the_course_of_do_all(self):
        called = []

        def watch(shelf, place):
            self.assertRaises(Busy, attempt, shelf, called.append)
            self.assertEqual(attempt(Shelf(NAMER), len), 0)

        self.shelf.do_all(("add", "b"), watch=watch)
        self.assertEqual(called, [])
        self.assertEqual(attempt(self.shelf, len), 4)

    def test_no_shelves(self):
        called = []
        for wrong in NO_SHELVES:
            with self.subTest(repr(wrong)):
                assert_refused(self, NotAShelf, "value", wrong, attempt, wrong, called.append)
                assert_refused(self, NotAShelf, "value", wrong, attempt, act=called.append, shelf=wrong)
                assert_refused(self, NotAShelf, "value", wrong, attempt, wrong, None)
        self.assertEqual(called, [])

    def test_an_empty_shelf_is_one(self):
        self.assertEqual(attempt(Shelf(NAMER), len), 0)
        self.assertEqual(within(Shelf(NAMER).trial(), lambda shelf: shelf.add("a")), "a")


if __name__ == "__main__":
    unittest.main()
