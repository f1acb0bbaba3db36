"""Views, and what they tell of the texts that fit them."""

from shownshort.errors import InvalidViews
from shownshort.kinds import SIGNS, check_length, is_text, is_tuple
from shownshort.limits import MOST_TEXT, MOST_VIEWS
from shownshort.shorteners import is_row, planned, telling_lengths

# Stands for a place that the views leave open; it is no sign.
SEVERAL = "?"


def is_view(value):
    """Tell whether the value is a pair of a row and a text of at most MOST_TEXT signs."""
    return is_tuple(value, 2, 2) and is_row(value[0]) and is_text(value[1], MOST_TEXT)


def check_views(views):
    """Refuse anything that is not a tuple of 1 to MOST_VIEWS views."""
    if not is_tuple(views, 1, MOST_VIEWS):
        raise InvalidViews(None)
    for place, view in enumerate(views):
        if not is_view(view):
            raise InvalidViews(place)


def known_signs(views, length):
    """Return, by their places, the signs that the views tell of texts with this length; None if none fits."""
    known = {}
    for row, shown in views:
        sources = planned(row, length)
        if len(sources) != len(shown):
            return None
        for source, sign in zip(sources, shown):
            # The sign of a mark stands for itself; a place keeps the sign that was told for it first.
            told = known.setdefault(source, sign) if isinstance(source, int) else source
            if told != sign:
                return None
    return known


def written_out(known, length, other):
    """Return a string with this length: the known signs at their places, and `other` at all other ones."""
    return "".join([known.get(place, other) for place in range(length)])


def lengths(views):
    """Return the pair (some, beyond): all lengths of fitting texts below `beyond`, from which on all are possible."""
    check_views(views)
    tried = telling_lengths()
    possible = [length for length in tried if known_signs(views, length) is not None]
    # The last length that is tried stands for all greater ones.
    if tried[-1] not in possible:
        return tuple(possible), None
    beyond = tried[-1]
    while beyond - 1 in possible:
        beyond -= 1
    return tuple([length for length in possible if length < beyond]), beyond


def signs(views, length):
    """Return the sign at each place that all fitting texts with this length share, or `?`; None if no text fits."""
    check_views(views)
    check_length(length)
    known = known_signs(views, length)
    if known is None:
        return None
    return written_out(known, length, SEVERAL)


def number_of(views, length):
    """Return how many texts with this length fit the views."""
    told = signs(views, length)
    if told is None:
        return 0
    number = 1
    # What the views tell are single signs at single places; so a place they leave open can hold each sign.
    for sign in told:
        if sign == SEVERAL:
            number *= len(SIGNS)
    return number


def only_text(views):
    """Return the text that fits the views if there is just one, otherwise None."""
    some, beyond = lengths(views)
    if beyond is not None or len(some) != 1:
        return None
    told = signs(views, some[0])
    return None if SEVERAL in told else told


def least_text(views):
    """Return the smallest text that fits the views, or None if there is none."""
    some, beyond = lengths(views)
    least = some[0] if some else beyond
    if least is None:
        return None
    return written_out(known_signs(views, least), least, SIGNS[0])
