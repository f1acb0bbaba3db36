"""Pairs of texts that a row shows alike, and how many different things a row shows."""

from shownshort.kinds import SIGNS, check_length, least_raised_at
from shownshort.shorteners import check_row, planned, shown_by
from shownshort.views import least_text


def leader(leaders, part):
    """Return the part that stands for all those that are joined with this one."""
    while part in leaders:
        part = leaders[part]
    return part


def joined(parts, others):
    """Join each part with the other one beside it and return the leaders; None if two signs would be joined."""
    leaders = {}
    for part, other in zip(parts, others):
        first = leader(leaders, part)
        second = leader(leaders, other)
        if first == second:
            continue
        if isinstance(first, str) and isinstance(second, str):
            return None
        # A sign leads, for it is what all places that are joined with it hold.
        if isinstance(first, str):
            leaders[second] = first
        else:
            leaders[first] = second
    return leaders


def like_a_shorter_one(row, length, shorter):
    """Return the smallest text with this length that the row shows like one with the shorter length, or None."""
    parts = planned(row, length)
    # The numbers from the length on stand for the places of the shorter text.
    others = [length + part if isinstance(part, int) else part for part in planned(row, shorter)]
    if len(parts) != len(others):
        return None
    leaders = joined(parts, others)
    if leaders is None:
        return None
    leading = [leader(leaders, place) for place in range(length)]
    return "".join([part if isinstance(part, str) else SIGNS[0] for part in leading])


def like_an_equally_long_one(row, length):
    """Return the smallest text with this length that the row shows like a smaller one with this length, or None."""
    parts = planned(row, length)
    hidden = [place for place in range(length) if place not in parts]
    # Such texts differ only at places from which nothing is shown; the last of them alone is enough.
    return least_raised_at(length, hidden[-1]) if hidden else None


def confused_texts(row, length):
    """Return texts with this length that the row shows like smaller ones, the smallest one among them."""
    found = [like_a_shorter_one(row, length, shorter) for shorter in range(length)]
    found.append(like_an_equally_long_one(row, length))
    return [text for text in found if text is not None]


def least_pair(row):
    """Return the smallest text that the row shows like a smaller one, behind the smallest one that it shows so."""
    check_row(row)
    length = 0
    found = []
    # This ends at the latest with MOST_SIGNS + 2 signs: every first shortener cuts a text with so many, or
    # with one less, and takes as many signs of both; so it shows them alike if all their signs are the same.
    while not found:
        found = confused_texts(row, length)
        length += 1
    other = min(found)
    return least_text(((row, shown_by(row, other)),)), other


def number_shown(row, length):
    """Return how many different things the row shows for all texts with this length."""
    check_row(row)
    check_length(length)
    number = 1
    places = len(set([part for part in planned(row, length) if isinstance(part, int)]))
    for place in range(places):
        number *= len(SIGNS)
    return number
