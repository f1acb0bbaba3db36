import itertools
import random
import unittest

from shownshort.console import Console
from shownshort.errors import InvalidLine, NotANamer
from shownshort.names import Namer
from tests.helper import (
    NAMER, NO_NAMERS, ODD, RULES, SHORT, TROUBLE, ModelledShelf, assert_equal_both_ways, assert_examples_hold, assert_refused,
    text_of,
)

EXAMPLES = r"""
>>> from shownshort.console import Console
>>> from shownshort.names import Namer
>>> console = Console(Namer("count", 8))
>>> [console.say("add a"), console.say("add a"), console.say("remove a"), console.say("add a"), console.say("meet"), console.say("undo"), console.say("names"), console.say("add A")]
['a', 'a~2', 'a', 'a~2', 'yes', 'ok', 'a~2', 'refused']
"""

NO_LINES = (
    "", " ", "  ", "a", "add", "remove", "add ", "remove ", " add a", "add a ", "add  a", "add a b", "add a  b", "add  ",
    " remove a", "remove a ", "remove  a", "remove a b", "remove a a", "adda", "removea", "add\ta", "add\na", "ADD a", "Add a",
    "Remove a", "REMOVE a", "adds a", "ad a", "removes a", "put a", "delete a", "a add", "add\u00a0a", "undo ", " undo", "undo a", "Undo",
    "UNDO", "undone", "undo\n", "names ", " names", "names a", "Names", "NAMES", "name", "names\n", "meet ", " meet", "meet a",
    "Meet", "meets", "meet\n", "do_all", "trial", "texts", "none", "ok", "refused", "quit", "help", "add a\nundo x y", "?", "\n",
    "\x00", "a" * 400, "add a b" * 50, "undo\nundo", "undo names",
    None, 0, 1, True, False, b"", b"undo", b"add a", (), ("add", "a"), ("undo",), [], ["add", "a"], ["undo"], {}, {"add": "a"},
    {"undo"}, str, object(), SHORT, NAMER, Console(NAMER), 10 ** 19, ODD,
)
# Words for `add` that are no texts of at most 200 signs.
NO_TEXT_WORDS = (
    "A", "aB", "\u00e4", "?", "-", "a,b", "a\n", "\n", "\t", "\u00a0", "\x00", "a\tb", "~!", text_of(201), "a" * 395, "(a)", "'a'", '"a"', "{a}",
)


def said(console, *lines):
    return [console.say(line) for line in lines]


def console_with(rule, width, words):
    console = Console(Namer(rule, width))
    for word in words:
        console.say("add " + word)
    return console


class ConsoleTest(unittest.TestCase):
    def test_examples(self):
        assert_examples_hold(self, EXAMPLES)

    def test_no_namers(self):
        for wrong in NO_NAMERS:
            with self.subTest(repr(wrong)):
                assert_refused(self, NotANamer, "value", wrong, Console, wrong)
                assert_refused(self, NotANamer, "value", wrong, Console, namer=wrong)

    def test_by_name(self):
        console = Console(namer=NAMER)
        self.assertEqual(console.say(line="add abc"), "abc")
        self.assertEqual(console.say(line="names"), "abc")
        assert_refused(self, InvalidLine, "value", "add", console.say, line="add")

    def test_true_and_comparable(self):
        one, other = Console(NAMER), Console(NAMER)
        self.assertIs(bool(one), True)
        assert_equal_both_ways(self, one, one, True)
        for value in (other, NAMER, None, "", 0, (), (one,), Console, object()):
            assert_equal_both_ways(self, one, value, False)

    def test_add(self):
        self.assertEqual(said(Console(Namer("count", 6)), "add a", "add a", "add a~2", "add abcdefg"), ["a", "a~2", "a~2", "abcdef"])
        self.assertEqual(said(Console(Namer("free", 6)), "add a", "add a", "add a~2", "add abcdefg"), ["a", "a~2", "a~2~2", "abcdef"])
        self.assertEqual(
            said(Console(Namer("tight", 6)), "add abcdef", "add abcdefg", "add abcd~2", "add a"), ["abcdef", "abcd~2", "abcd~3", "a"],
        )

    def test_words_that_are_lines_themselves(self):
        for word in ("add", "remove", "undo", "names", "meet", "none", "refused", "yes", "no", "ok"):
            console = Console(Namer("free", 10))
            told = said(console, "add " + word, "names", "remove " + word, "names", "undo", "names")
            self.assertEqual(told, [word, word, word, "none", "ok", word])

    def test_remove(self):
        for rule in RULES:
            console = console_with(rule, 6, ("abcdefg", "b", "abcdefx"))
            second = console.say("names").split(" ")[2]
            self.assertEqual(said(console, "remove " + second, "remove abcdef", "names"), ["abcdefx", "abcdefg", "b"])
        console = console_with("count", 6, ("a", "a", "a~2"))
        self.assertEqual(said(console, "remove a~2", "remove a~2", "remove a~2", "names"), ["a", "a~2", "refused", "a"])

    def test_undo(self):
        for rule in RULES:
            console = console_with(rule, 6, ("a", "b"))
            told = said(console, "remove a", "undo", "names", "undo", "names", "undo", "names", "undo", "undo", "names")
            self.assertEqual(told, ["a", "ok", "a b", "ok", "a", "ok", "none", "refused", "refused", "none"])

    def test_names(self):
        console = Console(Namer("free", 6))
        self.assertEqual(console.say("names"), "none")
        self.assertEqual(said(console, "add b", "add a", "add b", "names"), ["b", "a", "b~2", "b a b~2"])
        self.assertEqual(said(console, "remove b", "names", "remove a", "names", "remove b~2", "names"), ["b", "a b~2", "a", "b~2", "b", "none"])

    def test_meet(self):
        for rule in RULES:
            console = Console(Namer(rule, 6))
            self.assertEqual(said(console, "meet", "add a", "meet", "add a", "meet"), ["no", "a", "no", "a~2", "no"])
            expected = ["a~2", "yes"] if rule == "count" else ["a~2~2", "no"]
            self.assertEqual(said(console, "add a~2", "meet"), expected)
        console = console_with("count", 6, ("a", "a"))
        self.assertEqual(said(console, "remove a", "add a", "meet", "names"), ["a", "a~2", "yes", "a~2 a~2"])
        self.assertEqual(said(console, "remove a~2", "meet", "undo", "meet", "undo", "meet"), ["a", "no", "ok", "yes", "ok", "no"])

    def test_equal_texts_do_not_meet(self):
        self.assertEqual(console_with("free", 6, ("a",) * 20).say("meet"), "no")

    def test_twenty_names(self):
        console = console_with("tight", 6, ("abcdefg",) * 20)
        numbers = [f"abcd~{number}" for number in range(2, 10)] + [f"abc~{number}" for number in range(10, 21)]
        self.assertEqual(console.say("names"), " ".join(["abcdef", *numbers]))

    def test_two_consoles_beside_one_another(self):
        namer = Namer("free", 6)
        one, other = Console(namer), Console(namer)
        self.assertEqual([one.say("add a"), other.say("names"), other.say("add a"), one.say("add a")], ["a", "none", "a", "a~2"])
        self.assertEqual([other.say("undo"), other.say("undo"), one.say("names")], ["ok", "refused", "a a~2"])
        self.assertEqual([one.say("remove a"), other.say("remove a"), other.say("names")], ["a", "refused", "none"])

    def test_as_modelled(self):
        for seed, (rule, width) in enumerate(itertools.product(RULES, (6, 9))):
            drawn = random.Random(seed)
            texts = [text for text in TROUBLE if text]
            console, model = Console(Namer(rule, width)), ModelledShelf(Namer(rule, width))
            for _ in range(500):
                way = drawn.random()
                if way < 0.55:
                    text = drawn.choice(texts)
                    expected = model.add(text) if len(model.there) < 20 else "refused"
                    self.assertEqual(console.say("add " + text), expected)
                elif way < 0.75:
                    name = drawn.choice(texts)
                    expected = model.remove(name) if name in model.names else "refused"
                    self.assertEqual(console.say("remove " + name), expected)
                else:
                    expected = "ok" if model.deeds else "refused"
                    if model.deeds:
                        model.undo()
                    self.assertEqual(console.say("undo"), expected)
                self.assertEqual(console.say("names"), " ".join(model.names) or "none")
                self.assertEqual(console.say("meet"), "yes" if len(set(model.names)) < len(model.names) else "no")


class RefusedTest(unittest.TestCase):
    """What is refused changes nothing: the console goes on as one to which nothing was said in between."""

    def setUp(self):
        self.lines = ("names", "meet", "add a", "undo", "undo", "names", "undo", "names", "undo", "undo", "undo", "names")
        self.words = ("a", "a", "b")
        self.answers = {}
        for rule in RULES:
            console = console_with(rule, 6, self.words)
            console.say("remove a")
            self.answers[rule] = said(console, *self.lines)

    def assert_changes_nothing(self, say):
        for rule in RULES:
            console = console_with(rule, 6, self.words)
            console.say("remove a")
            say(console)
            self.assertEqual(said(console, *self.lines), self.answers[rule])

    def test_words_that_are_no_texts(self):
        for word in NO_TEXT_WORDS:
            with self.subTest(repr(word)):
                self.assert_changes_nothing(lambda console: self.assertEqual(console.say("add " + word), "refused"))

    def test_names_that_are_not_there(self):
        for word in (*NO_TEXT_WORDS, "a", "c", "a~3", "~2", "names", text_of(200)):
            with self.subTest(repr(word)):
                self.assert_changes_nothing(lambda console: self.assertEqual(console.say("remove " + word), "refused"))

    def test_200_signs_are_let_and_201_are_not(self):
        console = Console(Namer("free", 40))
        self.assertEqual(said(console, "add " + text_of(200), "add " + text_of(201), "names"), [text_of(40), "refused", text_of(40)])

    def test_nothing_to_undo(self):
        for rule in RULES:
            console = Console(Namer(rule, 6))
            self.assertEqual(said(console, "undo", "names", "add a", "undo", "undo", "names"), ["refused", "none", "a", "ok", "refused", "none"])

    def test_the_21st_text(self):
        for rule in RULES:
            console = console_with(rule, 6, ("a",) * 20)
            names = console.say("names")
            self.assertEqual(said(console, "add a", "add b", "add A", "names"), ["refused", "refused", "refused", names])
            self.assertEqual(said(console, "undo", "add b", "add c"), ["ok", "b", "refused"])
            self.assertEqual(said(console, "remove a", "add c", "add d"), ["a", "c", "refused"])

    def test_lines_of_no_form(self):
        for line in NO_LINES:
            with self.subTest(repr(line)):
                assert_refused(self, InvalidLine, "value", line, Console(NAMER).say, line)
                assert_refused(self, InvalidLine, "value", line, Console(NAMER).say, line=line)
                self.assert_changes_nothing(lambda console: self.assertRaises(InvalidLine, console.say, line))

    def test_no_form_is_looked_for_before_the_shelf(self):
        console = console_with("free", 6, ("a",) * 20)
        for line in ("add a b", "remove  a", "add A ", "undo ", "add"):
            assert_refused(self, InvalidLine, "value", line, console.say, line)


if __name__ == "__main__":
    unittest.main()
