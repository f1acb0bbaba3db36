"""What several test files need: texts, rows, shelves, wrong values, second ways of showing and naming, checks."""

import doctest
import itertools

from shownshort.names import Namer
from shownshort.shelves import Shelf
from shownshort.shorteners import Shortener

SIGNS = ".0123456789abcdefghijklmnopqrstuvwxyz~"

# Texts and strings with a character that is no sign, each of at most three characters.
WITHOUT_SIGNS = ("A", "aB", "Zab", " ", "a b", "?", "a?", "-", "_", "/", "}", "\n", "\x00", "\xe4", "\u0663", "\uff41")


def text_of(length):
    """A text with this many signs; any 38 signs one behind the other are different."""
    return "".join(SIGNS[7 * place % len(SIGNS)] for place in range(length))


class Odd:
    """Is equal to everything, and cannot be hashed."""

    __hash__ = None

    def __eq__(self, other):
        return True


ODD = Odd()
SHORT = Shortener(8, 3, 2, "...")
ROW = (SHORT,)

NO_ROWS = (
    None, 0, 1, True, "", "abc", b"", [], [SHORT], [SHORT] * 4, {}, {SHORT.told: SHORT}, set(), SHORT, Shortener,
    object(), (), ROW * 5, ROW * 6, (None,) * 5, ROW * 4 + (None,), ("a",) + ROW * 4,
)
NO_SHORTENERS = (None, 0, True, "", "abc", SHORT.told, ROW, [SHORT], {}, Shortener, object(), ODD)
NO_TEXTS = WITHOUT_SIGNS + (
    text_of(201), "a" * 400, text_of(199) + "A", "A" + text_of(199), text_of(100) + " " + text_of(99), b"", b"abc", 0, 7,
    True, False, None, (), ("a",), [], ["a", "b"], {}, {"a": "b"}, {"a"}, str, object(), SHORT, ROW,
    ODD,
)
NO_LENGTHS = (
    -1, 501, -500, 10 ** 19, True, False, None, "", "5", "abc", b"5", (), (5,), [], [5], {}, {5}, int, object(), SHORT,
    ODD,
)
NO_MARKS = WITHOUT_SIGNS + (
    "....", "abcd", "~" * 400, "A" * 400, b"", b"a", b"...", 0, 1, -1, True, False, None, (), ("a",), (".", ".", "."),
    [], ["a"], [".", "."], {}, {"a": "b"}, {"a"}, str, object(), SHORT, ODD,
)

RULES = ("count", "free", "tight")
NAMER = Namer("free", 8)
NO_RULES = (
    "", "Count", "COUNT", "counts", "coun", " free", "free ", "tight\n", "end", "start", "middle", "count free", "A" * 400,
    b"count", b"", 0, 1, -1, 10 ** 19, True, False, None, (), ("count",), RULES, [], ["free"], list(RULES), {},
    {"free": "free"}, {"tight"}, str, object(), SHORT, NAMER, ODD,
)
NO_NAMERS = (
    None, 0, 8, True, "", "free", b"free", (), ("free", 8), (NAMER,), [], [NAMER], {}, {"rule": "free"}, set(), Namer,
    object(), SHORT, ROW, repr(NAMER), ValueError("free"), ODD,
)
# Bases that meet each other, of texts with fewer and with more signs than the width 6, and such as look like names.
TROUBLE = (
    "", "~2", "~3", "a", "a~2", "a~3", "a~2~2", "abcd", "abcd~2", "abcd~3", "abcde", "abcdf", "abcde~2", "abcdef",
    "abcdefg", "abcdef~2", "abcd~2x", "abcdeg", "~2~2", "abcd~2~2",
)
NO_NAMES = (
    "b", "A", "a~", "a ", " a", "~2", "a" * 400, b"a", b"", 0, 1, True, False, None, (), ("a",), [], ["a"], {}, {"a": "a"},
    {"a"}, str, object(), SHORT, NAMER, ODD,
)
NO_SHELVES = (
    None, 0, 1, True, "", "abc", b"ab", (), (Shelf(NAMER),), [], [Shelf(NAMER)], {}, set(), Shelf, object(), NAMER, SHORT,
    Shelf(NAMER).trial(), repr(Shelf(NAMER)), ValueError("shelf"), ODD,
)
NO_DEEDS = (
    None, 0, 1, True, "", "add", "ab", b"ab", (), ("add",), ("remove",), ("add", "a", "b"), ("add", "a", None),
    ("remove", "a", "a"), ["add", "a"], ["remove", "a"], {"add": "a"}, {"add", "a"}, ("Add", "a"), ("adds", "a"),
    ("", "a"), ("add ", "a"), ("undo", "a"), ("do_all", ()), ("a", "add"), (b"add", "a"), (None, "a"), (True, "a"),
    (0, "a"), (["add"], "a"), (("add",), "a"), (("add", "a"), ("add", "a")), ({}, "a"), object(), tuple, SHORT, NAMER, ODD,
    (ODD, "a"), (ODD, ODD),
)


def one(limit, head, tail, mark):
    return (Shortener(limit, head, tail, mark),)


def wrong_rows():
    """Pairs of what is no row and the index that tells why."""
    for row in NO_ROWS:
        yield row, None
    for many in range(1, 5):
        for place in range(many):
            for wrong in NO_SHORTENERS:
                yield ROW * place + (wrong,) + ROW * (many - place - 1), place
    # Of several wrong ones the first one is told.
    yield (None, None), 0
    yield SHORT.told, 0
    yield (SHORT, None, SHORT, None), 1
    yield (SHORT, SHORT, "a", 3), 2
    yield (SHORT, SHORT.told, [], ROW), 1


def texts_up_to(most, signs=SIGNS):
    """All texts of at most so many of these signs, which are in ascending order, from the smallest one on."""
    for length in range(most + 1):
        for told in itertools.product(signs, repeat=length):
            yield "".join(told)


def small_rows(drawn, many, greatest, marks):
    """Some rows of 1 to 4 shorteners whose numbers go up to the greatest one."""
    rows = []
    while len(rows) < many:
        numbers = [[drawn.randint(0, greatest) for _ in range(3)] for _ in range(drawn.choice((1, 1, 2, 2, 3, 4)))]
        rows.append(tuple(Shortener(*told, drawn.choice(marks)) for told in numbers))
    return rows


def great_rows(drawn, many):
    """Rows with numbers from 0 to 40, also with both of them."""
    rows = []
    for _ in range(many):
        numbers = [[drawn.choice((0, 40, drawn.randint(0, 40))) for _ in range(3)] for _ in range(drawn.randint(1, 4))]
        rows.append(tuple(Shortener(*told, drawn.choice(("", "~", ".", "..", "0a", "..."))) for told in numbers))
    return rows


def modelled(told, text):
    """What a shortener shows, sign by sign, as [6] says it."""
    limit, head, tail, mark = told
    if len(text) <= limit:
        return text
    front = [sign for place, sign in enumerate(text) if place < head]
    back = [sign for place, sign in enumerate(text) if place >= len(text) - tail]
    return "".join(front) + mark + "".join(back)


def modelled_row(row, text):
    """What a row shows, as [7] says it."""
    for shortener in row:
        text = modelled(shortener.told, text)
    return text


def filled(plan, text):
    """The signs that a plan stands for."""
    return "".join(text[source] if type(source) is int else source for source in plan)


def modelled_name(namer, text, there):
    """The name of a text that comes where pairs of texts and names are there, as [10] says it."""
    base = "".join(sign for place, sign in enumerate(text) if place < namer.width)

    def with_number(number):
        for left_out in range(len(base) + 1):
            name = base[:len(base) - left_out] + "~" + str(number)
            if namer.rule != "tight" or len(name) <= namer.width:
                return name

    if namer.rule == "count":
        same = [other for other, _ in there if other[:namer.width] == base]
        return with_number(len(same) + 1) if same else base
    taken = [name for _, name in there]
    if base not in taken:
        return base
    return next(with_number(number) for number in itertools.count(2) if with_number(number) not in taken)


def shelf_with(rule, width, texts):
    shelf = Shelf(Namer(rule, width))
    for text in texts:
        shelf.add(text)
    return shelf


def look(shelf):
    """All that can be seen of a shelf without doing something with it."""
    return shelf.namer, shelf.texts, shelf.names, shelf.busy, len(shelf), repr(shelf), bool(shelf)


def undone(shelf):
    """What can be seen of a shelf as its deeds are taken back one by one, all of them on trial."""
    seen = []
    with shelf.trial():
        while True:
            seen.append((shelf.texts, shelf.names))
            try:
                shelf.undo()
            except LookupError:
                return seen


class ModelledShelf:
    """Keeps texts in one list and takes deeds back by doing their opposite."""

    def __init__(self, namer):
        self.namer = namer
        self.there = []
        self.deeds = []

    def add(self, text):
        name = modelled_name(self.namer, text, self.there)
        self.there.append((text, name))
        self.deeds.append(("add",))
        return name

    def remove(self, name):
        at = next(at for at, (_, other) in enumerate(self.there) if other == name)
        pair = self.there.pop(at)
        self.deeds.append(("remove", at, pair))
        return pair[0]

    def undo(self):
        word, *told = self.deeds.pop()
        if word == "add":
            self.there.pop()
        else:
            self.there.insert(*told)

    @property
    def texts(self):
        return tuple(text for text, _ in self.there)

    @property
    def names(self):
        return tuple(name for _, name in self.there)


def assert_refused(case, error, attribute, wrong, call, *given, **named):
    """Check that a call raises just this error, with this very object in the attribute."""
    with case.assertRaises(error) as caught:
        call(*given, **named)
    case.assertIs(type(caught.exception), error)
    case.assertIs(getattr(caught.exception, attribute), wrong)


def assert_equal_both_ways(case, one, other, equal):
    """Check that two values are equal, or that they are not, whichever stands first."""
    case.assertIs(one == other, equal)
    case.assertIs(other == one, equal)
    case.assertIs(one != other, not equal)
    case.assertIs(other != one, not equal)


def assert_examples_hold(case, examples):
    """Run examples as they stand in the document."""
    parsed = doctest.DocTestParser().get_doctest(examples, {}, case.id(), None, 0)
    case.assertTrue(parsed.examples)
    told = []
    failed = doctest.DocTestRunner(verbose=False).run(parsed, out=told.append).failed
    case.assertEqual(failed, 0, "".join(told))
