"""What integers, signs, texts and tuples of a size are, with the checks that several modules share."""

from shownshort.errors import InvalidLength, InvalidMark, InvalidText, InvalidTexts
from shownshort.limits import MOST_LENGTH, MOST_MARK, MOST_TEXT

SIGNS = ".0123456789abcdefghijklmnopqrstuvwxyz~"


def is_integer(value, least, most):
    """Tell whether the value is an integer from `least` to `most`."""
    # To Python True and False are integers, to this package they are not.
    if not isinstance(value, int) or isinstance(value, bool):
        return False
    return least <= value <= most


def is_tuple(value, least, most):
    """Tell whether the value is a tuple with `least` to `most` parts."""
    return isinstance(value, tuple) and least <= len(value) <= most


def is_text(value, most):
    """Tell whether the value is a string of at most `most` signs."""
    if not isinstance(value, str) or len(value) > most:
        return False
    return all([character in SIGNS for character in value])


def least_raised_at(length, place):
    """Return the smallest text with this length that does not have the smallest sign at the place."""
    return SIGNS[0] * place + SIGNS[1] + SIGNS[0] * (length - place - 1)


def check_mark(mark):
    """Refuse anything that is not a string of at most MOST_MARK signs."""
    if not is_text(mark, MOST_MARK):
        raise InvalidMark(mark)


def check_text(text):
    """Refuse anything that is not a text of at most MOST_TEXT signs."""
    if not is_text(text, MOST_TEXT):
        raise InvalidText(text)


def check_length(length):
    """Refuse anything that is not a count up to MOST_LENGTH."""
    if not is_integer(length, 0, MOST_LENGTH):
        raise InvalidLength(length)


def check_texts(texts, most):
    """Refuse anything that is not a tuple of at most `most` texts with at most MOST_TEXT signs each."""
    if not is_tuple(texts, 0, most):
        raise InvalidTexts(None)
    for place, text in enumerate(texts):
        if not is_text(text, MOST_TEXT):
            raise InvalidTexts(place)
