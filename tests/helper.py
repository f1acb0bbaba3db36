"""What several test files need: texts, rows, wrong values, a second way of showing, and a look at errors."""

import doctest
import itertools

from shownshort.shorteners import Shortener

SIGNS = ".0123456789abcdefghijklmnopqrstuvwxyz~"

# Texts and strings with a character that is no sign, each of at most three characters.
WITHOUT_SIGNS = ("A", "aB", "Zab", " ", "a b", "?", "a?", "-", "_", "/", "}", "\n", "\x00", "\xe4", "\u0663", "\uff41")


def text_of(length):
    """A text with this many signs; any 38 signs one behind the other are different."""
    return "".join(SIGNS[7 * place % len(SIGNS)] for place in range(length))


SHORT = Shortener(8, 3, 2, "...")
ROW = (SHORT,)

NO_ROWS = (
    None, 0, 1, True, "", "abc", b"", [], [SHORT], [SHORT] * 4, {}, {SHORT.told: SHORT}, set(), SHORT, Shortener,
    object(), (), ROW * 5, ROW * 6, (None,) * 5, ROW * 4 + (None,), ("a",) + ROW * 4,
)
NO_SHORTENERS = (None, 0, True, "", "abc", SHORT.told, ROW, [SHORT], {}, Shortener, object())
NO_TEXTS = WITHOUT_SIGNS + (
    text_of(201), "a" * 400, text_of(199) + "A", "A" + text_of(199), text_of(100) + " " + text_of(99), b"", b"abc", 0, 7,
    True, False, None, (), ("a",), [], ["a", "b"], {}, {"a": "b"}, {"a"}, str, object(), SHORT, ROW,
)
NO_LENGTHS = (
    -1, 501, -500, 10 ** 19, True, False, None, "", "5", "abc", b"5", (), (5,), [], [5], {}, {5}, int, object(), SHORT,
)


def wrong_rows():
    """Pairs of what is no row and the index that tells why."""
    for row in NO_ROWS:
        yield row, None
    for many in range(1, 5):
        for place in range(many):
            for wrong in NO_SHORTENERS:
                yield ROW * place + (wrong,) + ROW * (many - place - 1), place
    # Of several wrong ones the first one is told.
    yield (None, None), 0
    yield SHORT.told, 0
    yield (SHORT, None, SHORT, None), 1
    yield (SHORT, SHORT, "a", 3), 2
    yield (SHORT, SHORT.told, [], ROW), 1


def texts_up_to(most, signs=SIGNS):
    """All texts of at most so many of these signs, which are in ascending order, from the smallest one on."""
    for length in range(most + 1):
        for told in itertools.product(signs, repeat=length):
            yield "".join(told)


def small_rows(drawn, many, greatest, marks):
    """Some rows of 1 to 4 shorteners whose numbers go up to the greatest one."""
    rows = []
    while len(rows) < many:
        numbers = [[drawn.randint(0, greatest) for _ in range(3)] for _ in range(drawn.choice((1, 1, 2, 2, 3, 4)))]
        rows.append(tuple(Shortener(*told, drawn.choice(marks)) for told in numbers))
    return rows


def modelled(told, text):
    """What a shortener shows, sign by sign, as [6] says it."""
    limit, head, tail, mark = told
    if len(text) <= limit:
        return text
    front = [sign for place, sign in enumerate(text) if place < head]
    back = [sign for place, sign in enumerate(text) if place >= len(text) - tail]
    return "".join(front) + mark + "".join(back)


def modelled_row(row, text):
    """What a row shows, as [7] says it."""
    for shortener in row:
        text = modelled(shortener.told, text)
    return text


def filled(plan, text):
    """The signs that a plan stands for."""
    return "".join(text[source] if type(source) is int else source for source in plan)


def assert_refused(case, error, attribute, wrong, call, *given, **named):
    """Check that a call raises just this error, with this very object in the attribute."""
    with case.assertRaises(error) as caught:
        call(*given, **named)
    case.assertIs(type(caught.exception), error)
    case.assertIs(getattr(caught.exception, attribute), wrong)


def assert_equal_both_ways(case, one, other, equal):
    """Check that two values are equal, or that they are not, whichever stands first."""
    case.assertIs(one == other, equal)
    case.assertIs(other == one, equal)
    case.assertIs(one != other, not equal)
    case.assertIs(other != one, not equal)


def assert_examples_hold(case, examples):
    """Run examples as they stand in the document."""
    parsed = doctest.DocTestParser().get_doctest(examples, {}, case.id(), None, 0)
    case.assertTrue(parsed.examples)
    told = []
    failed = doctest.DocTestRunner(verbose=False).run(parsed, out=told.append).failed
    case.assertEqual(failed, 0, "".join(told))
