"""What several test files need: texts, wrong values, a second way of showing, and a look at errors."""

import doctest

SIGNS = ".0123456789abcdefghijklmnopqrstuvwxyz~"

# Texts and strings with a character that is no sign, each of at most three characters.
WITHOUT_SIGNS = ("A", "aB", "Zab", " ", "a b", "?", "a?", "-", "_", "/", "}", "\n", "\x00", "\xe4", "\u0663", "\uff41")


def text_of(length):
    """A text with this many signs; any 38 signs one behind the other are different."""
    return "".join(SIGNS[7 * place % len(SIGNS)] for place in range(length))


def modelled(told, text):
    """What a shortener shows, sign by sign, as [6] says it."""
    limit, head, tail, mark = told
    if len(text) <= limit:
        return text
    front = [sign for place, sign in enumerate(text) if place < head]
    back = [sign for place, sign in enumerate(text) if place >= len(text) - tail]
    return "".join(front) + mark + "".join(back)


def modelled_row(row, text):
    """What a row shows, as [7] says it."""
    for shortener in row:
        text = modelled(shortener.told, text)
    return text


def filled(plan, text):
    """The signs that a plan stands for."""
    return "".join(text[source] if type(source) is int else source for source in plan)


def assert_refused(case, error, attribute, wrong, call, *given, **named):
    """Check that a call raises just this error, with this very object in the attribute."""
    with case.assertRaises(error) as caught:
        call(*given, **named)
    case.assertIs(type(caught.exception), error)
    case.assertIs(getattr(caught.exception, attribute), wrong)


def assert_examples_hold(case, examples):
    """Run examples as they stand in the document."""
    parsed = doctest.DocTestParser().get_doctest(examples, {}, case.id(), None, 0)
    case.assertTrue(parsed.examples)
    told = []
    failed = doctest.DocTestRunner(verbose=False).run(parsed, out=told.append).failed
    case.assertEqual(failed, 0, "".join(told))
