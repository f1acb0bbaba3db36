"""Families of shorteners, and what they tell apart in lists of texts."""

from shownshort.errors import InvalidRule, InvalidTexts, InvalidWidth
from shownshort.kinds import check_mark, check_texts, is_integer, is_text, is_tuple
from shownshort.limits import MOST_SIGNS, MOST_TEXT
from shownshort.shorteners import Shortener, check_row, shown_by

KINDS = ("end", "start", "middle")
MOST_TEXTS = 20


def check_kind(kind):
    """Refuse anything that is not the word for a family."""
    if not isinstance(kind, str) or kind not in KINDS:
        raise InvalidRule(kind)


def is_seen(value):
    """Tell whether the value is a pair of texts of at most MOST_TEXT signs."""
    return is_tuple(value, 2, 2) and is_text(value[0], MOST_TEXT) and is_text(value[1], MOST_TEXT)


def check_seen(seen):
    """Refuse anything that is not a tuple of at most MOST_TEXTS pairs of texts."""
    if not is_tuple(seen, 0, MOST_TEXTS):
        raise InvalidTexts(None)
    for place, pair in enumerate(seen):
        if not is_seen(pair):
            raise InvalidTexts(place)


def widths_of(mark):
    """Return, in ascending order, the widths of a family with this mark."""
    return list(range(len(mark), MOST_SIGNS + 1))


def member_of(kind, mark, width):
    """Return the shortener of a family; nothing is checked."""
    left = width - len(mark)
    if kind == "end":
        return Shortener(width, left, 0, mark)
    if kind == "start":
        return Shortener(width, 0, left, mark)
    return Shortener(width, left - left // 2, left // 2, mark)


def separates(row, texts):
    """Tell whether the row shows different texts in different ways; nothing is checked."""
    # Equal texts are shown alike; so there are as many forms as texts just if no two of these share one.
    return len(set([shown_by(row, text) for text in texts])) == len(set(texts))


def has_shown(row, seen):
    """Tell whether the row shows each text as it was seen; nothing is checked."""
    return all([shown_by(row, text) == shown for text, shown in seen])


def member(kind, mark, width):
    """Return the shortener with this width of a family."""
    check_kind(kind)
    check_mark(mark)
    if not is_integer(width, len(mark), MOST_SIGNS):
        raise InvalidWidth(width)
    return member_of(kind, mark, width)


def groups(row, texts):
    """Return the places of texts that the row shows alike, a tuple for each form that several of them share."""
    check_row(row)
    check_texts(texts, MOST_TEXTS)
    places = {}
    for place, text in enumerate(texts):
        places.setdefault(shown_by(row, text), []).append(place)
    return tuple([tuple(shared) for shared in places.values() if len(shared) > 1])


def tells_apart(row, texts):
    """Tell whether the row shows any two texts that are different in different ways."""
    check_row(row)
    check_texts(texts, MOST_TEXTS)
    return separates(row, texts)


def widths(kind, mark, texts):
    """Return, in ascending order, all widths of the family whose shortener alone tells the texts apart."""
    check_kind(kind)
    check_mark(mark)
    check_texts(texts, MOST_TEXTS)
    return tuple([width for width in widths_of(mark) if separates((member_of(kind, mark, width),), texts)])


def narrowest(kind, mark, texts):
    """Return the smallest width of the family whose shortener alone tells the texts apart, or None."""
    found = widths(kind, mark, texts)
    return found[0] if found else None


def fitting(mark, seen):
    """Return the pairs (kind, width) of all shorteners with this mark that show each text as it was seen."""
    check_mark(mark)
    check_seen(seen)
    tried = [(kind, width) for kind in KINDS for width in widths_of(mark)]
    return tuple([(kind, width) for kind, width in tried if has_shown((member_of(kind, mark, width),), seen)])
