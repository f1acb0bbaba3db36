"""A row and a namer to try the package with."""

from shownshort.names import Namer
from shownshort.shorteners import Shortener


def sample_row():
    """Return the row with one shortener, for at most 8 signs."""
    return (Shortener(8, 3, 2, "..."),)


def sample_namer():
    """Return the namer with the rule `free` and the width 8."""
    return Namer("free", 8)
