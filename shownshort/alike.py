"""Rows that show the same for every text, and rows that change nothing when they are applied again."""

from shownshort.kinds import SIGNS, least_raised_at
from shownshort.shorteners import check_row, planned, telling_lengths


def filled_in(sources, text):
    """Return what a plan for the length of the text shows of it."""
    return "".join([text[source] if isinstance(source, int) else source for source in sources])


def differing_places(sources, others):
    """Return the places from which either plan takes a sign where two equally long plans differ."""
    places = []
    for source, other in zip(sources, others):
        if source != other:
            places.extend([place for place in (source, other) if isinstance(place, int)])
    return places


def least_difference(sources, others, length):
    """Return the smallest text with this length of which two different plans for it show different things."""
    least = SIGNS[0] * length
    if filled_in(sources, least) != filled_in(others, least):
        return least
    # The plans differ only where a place stands against another one or against the smallest sign. As long
    # as all these places hold the smallest sign nothing differs, and the last of them alone is enough.
    return least_raised_at(length, max(differing_places(sources, others)))


def first_difference(shorteners, others):
    """Return the smallest text for which two tuples of shorteners, of any number, show different things, or None."""
    for length in telling_lengths():
        sources = planned(shorteners, length)
        other_sources = planned(others, length)
        if sources != other_sources:
            return least_difference(sources, other_sources, length)
    return None


def first_unlike(row, other_row):
    """Return the smallest text for which the rows show different things, or None if they are alike."""
    check_row(row)
    check_row(other_row)
    return first_difference(row, other_row)


def are_alike(row, other_row):
    """Tell whether the rows show the same for every text."""
    return first_unlike(row, other_row) is None


def first_unstable(row):
    """Return the smallest text whose shown form the row changes when it is applied again, or None if it is stable."""
    check_row(row)
    return first_difference(row, row + row)


def is_stable(row):
    """Tell whether the row never changes what it has shown when it is applied again."""
    return first_unstable(row) is None
