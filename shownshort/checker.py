"""The checker: whether a paper shows what is claimed. It believes nothing and finds out by itself what it must."""

from shownshort.alike import first_difference
from shownshort.kinds import is_integer, is_text, is_tuple
from shownshort.limits import MOST_LENGTH, MOST_MARK, MOST_ROW, MOST_SIGNS, MOST_TEXT
from shownshort.shorteners import Shortener, shown_by
from shownshort.views import known_signs


def is_told(value):
    """Tell whether the value is what a shortener tells of itself."""
    if not is_tuple(value, 4, 4):
        return False
    return all([is_integer(number, 0, MOST_SIGNS) for number in value[:3]]) and is_text(value[3], MOST_MARK)


def is_told_row(value):
    """Tell whether the value is what the shorteners of a row tell of themselves."""
    return is_tuple(value, 1, MOST_ROW) and all([is_told(part) for part in value])


def are_told_rows(parts, many):
    """Tell whether the parts of a claim are so many rows and nothing else."""
    return len(parts) == many and all([is_told_row(part) for part in parts])


def are_shown_parts(parts):
    """Tell whether the parts of a claim are a row, a shown form and a length."""
    if len(parts) != 3:
        return False
    return is_told_row(parts[0]) and is_text(parts[1], MOST_TEXT) and is_integer(parts[2], 0, MOST_LENGTH)


def is_pair_of_texts(value):
    """Tell whether the value is a pair of two different texts of at most MOST_TEXT signs."""
    return is_tuple(value, 2, 2) and all([is_text(part, MOST_TEXT) for part in value]) and value[0] != value[1]


def row_of(told_row):
    """Return the row whose shorteners tell this of themselves."""
    return tuple([Shortener(limit, head, tail, mark) for limit, head, tail, mark in told_row])


def alike_holds(parts, paper):
    """Check that two rows are alike."""
    if not are_told_rows(parts, 2) or not is_tuple(paper, 0, 0):
        return False
    return first_difference(row_of(parts[0]), row_of(parts[1])) is None


def unlike_holds(parts, paper):
    """Check that two rows show different things for the text that the paper is."""
    if not are_told_rows(parts, 2) or not is_text(paper, MOST_TEXT):
        return False
    return shown_by(row_of(parts[0]), paper) != shown_by(row_of(parts[1]), paper)


def stable_holds(parts, paper):
    """Check that a row is stable."""
    if not are_told_rows(parts, 1) or not is_tuple(paper, 0, 0):
        return False
    row = row_of(parts[0])
    return first_difference(row, row + row) is None


def unstable_holds(parts, paper):
    """Check that a row changes what it has shown for the text that the paper is."""
    if not are_told_rows(parts, 1) or not is_text(paper, MOST_TEXT):
        return False
    row = row_of(parts[0])
    shown = shown_by(row, paper)
    return shown_by(row, shown) != shown


def possible_holds(parts, paper):
    """Check that the paper is a text with the length that is shown as it is claimed."""
    if not are_shown_parts(parts) or not is_text(paper, MOST_LENGTH):
        return False
    told_row, shown, length = parts
    return len(paper) == length and shown_by(row_of(told_row), paper) == shown


def impossible_holds(parts, paper):
    """Check that no text with the length is shown as it is claimed."""
    if not are_shown_parts(parts) or not is_tuple(paper, 0, 0):
        return False
    told_row, shown, length = parts
    return known_signs(((row_of(told_row), shown),), length) is None


def confused_holds(parts, paper):
    """Check that the paper is a pair of different texts that the row shows alike."""
    if not are_told_rows(parts, 1) or not is_pair_of_texts(paper):
        return False
    row = row_of(parts[0])
    return shown_by(row, paper[0]) == shown_by(row, paper[1])


CHECKS = {
    "alike": alike_holds,
    "unlike": unlike_holds,
    "stable": stable_holds,
    "unstable": unstable_holds,
    "possible": possible_holds,
    "impossible": impossible_holds,
    "confused": confused_holds,
}


def holds(claim, paper):
    """Tell whether claim and paper have one of the forms and the paper shows what is claimed."""
    # Only a string is looked up, for other things may not be let as a key.
    if not is_tuple(claim, 2, 4) or not isinstance(claim[0], str) or claim[0] not in CHECKS:
        return False
    check = CHECKS[claim[0]]
    return check(claim[1:], paper)
