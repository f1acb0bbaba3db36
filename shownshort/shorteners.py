"""Shorteners, rows of them, and what they show."""

from shownshort.errors import InvalidNumber, InvalidRow
from shownshort.kinds import check_length, check_mark, check_text, is_integer, is_tuple
from shownshort.limits import MOST_ROW, MOST_SIGNS


class Shortener:
    """Shows texts up to its limit whole, and of others the head, the mark and the tail."""

    def __init__(self, limit, head, tail, mark):
        for number in (limit, head, tail):
            if not is_integer(number, 0, MOST_SIGNS):
                raise InvalidNumber(number)
        check_mark(mark)
        self.limit = limit
        self.head = head
        self.tail = tail
        self.mark = mark
        self.told = (limit, head, tail, mark)

    def __eq__(self, other):
        return isinstance(other, Shortener) and self.told == other.told

    def __repr__(self):
        return f"Shortener({self.limit}, {self.head}, {self.tail}, {self.mark!r})"


def is_row(value):
    """Tell whether the value is a tuple of 1 to MOST_ROW shorteners."""
    return is_tuple(value, 1, MOST_ROW) and all([isinstance(part, Shortener) for part in value])


def check_row(row):
    """Refuse anything that is not a tuple of 1 to MOST_ROW shorteners."""
    if not is_tuple(row, 1, MOST_ROW):
        raise InvalidRow(None)
    for place, shortener in enumerate(row):
        if not isinstance(shortener, Shortener):
            raise InvalidRow(place)


def shortened(shortener, whole, mark):
    """Return what the shortener shows of `whole`; it and the mark are two strings or two tuples."""
    if len(whole) <= shortener.limit:
        return whole
    # A start below 0 would count from the end, and leave out signs of a text shorter than the tail.
    tail_start = max(0, len(whole) - shortener.tail)
    return whole[:shortener.head] + mark + whole[tail_start:]


def shown_by(row, text):
    """Return what a row shows of a text with any number of signs; neither is checked."""
    shown = text
    for shortener in row:
        shown = shortened(shortener, shown, shortener.mark)
    return shown


def planned(row, length):
    """Return the plan of a row for a length; neither is checked."""
    sources = tuple(range(length))
    for shortener in row:
        sources = shortened(shortener, sources, tuple(shortener.mark))
    return sources


def telling_lengths():
    """Return, in ascending order, the lengths whose plans tell the plans for all lengths."""
    # Every first shortener cuts a text with more than MOST_SIGNS signs, and takes no sign but the first
    # and the last MOST_SIGNS ones. With twice as many signs or more, none of these is both; so the last
    # length stands for all greater ones: only the places that are counted from the end move on with it.
    return list(range(2 * MOST_SIGNS + 1))


def show(row, text):
    """Return what the row shows of the text."""
    check_row(row)
    check_text(text)
    return shown_by(row, text)


def plan(row, length):
    """Return, for each sign that the row shows of a text with this length, its place or the sign of a mark."""
    check_row(row)
    check_length(length)
    return planned(row, length)


def widest(row):
    """Return the greatest number of signs that the row shows for any text."""
    check_row(row)
    # A text with more than MOST_SIGNS signs is never shown whole at first, and has enough signs for
    # every head and tail; so one such length stands for all of them.
    return max([len(planned(row, length)) for length in range(MOST_SIGNS + 2)])
