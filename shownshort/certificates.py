"""Certificates: claims that are so, each with a paper that convinces the checker."""

from shownshort.alike import first_unlike, first_unstable
from shownshort.kinds import SIGNS, check_length, check_text
from shownshort.pairs import least_pair
from shownshort.shorteners import check_row
from shownshort.views import known_signs, written_out


def told_row(row):
    """Return what the shorteners of a row tell of themselves."""
    return tuple([shortener.told for shortener in row])


def certify_alike(row, other_row):
    """Return the claim that the rows are alike, or that they are not, and a paper for it."""
    text = first_unlike(row, other_row)
    if text is None:
        return ("alike", told_row(row), told_row(other_row)), ()
    return ("unlike", told_row(row), told_row(other_row)), text


def certify_stable(row):
    """Return the claim that the row is stable, or that it is not, and a paper for it."""
    text = first_unstable(row)
    if text is None:
        return ("stable", told_row(row)), ()
    return ("unstable", told_row(row)), text


def certify_possible(row, shown, length):
    """Return the claim that some text with this length is shown like this, or that none is, and a paper for it."""
    check_row(row)
    check_text(shown)
    check_length(length)
    known = known_signs(((row, shown),), length)
    if known is None:
        return ("impossible", told_row(row), shown, length), ()
    return ("possible", told_row(row), shown, length), written_out(known, length, SIGNS[0])


def certify_confused(row):
    """Return the claim that the row shows two texts alike, and the smallest pair of them."""
    pair = least_pair(row)
    return ("confused", told_row(row)), pair
