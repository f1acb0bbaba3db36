"""Namers, and the names that the texts of a list get in one order or in any."""

from shownshort.errors import InvalidPlace, InvalidRule, InvalidWidth, NotANamer
from shownshort.kinds import check_texts, is_integer
from shownshort.limits import MOST_LISTED, MOST_SIGNS

RULES = ("count", "free", "tight")
LEAST_WIDTH = 6


class Namer:
    """Names texts by a rule and a width."""

    def __init__(self, rule, width):
        if not isinstance(rule, str) or rule not in RULES:
            raise InvalidRule(rule)
        if not is_integer(width, LEAST_WIDTH, MOST_SIGNS):
            raise InvalidWidth(width)
        self.rule = rule
        self.width = width

    def __eq__(self, other):
        return isinstance(other, Namer) and self.rule == other.rule and self.width == other.width

    def __repr__(self):
        return f"Namer({self.rule}, {self.width})"


def check_namer(namer):
    """Refuse anything that is not a namer."""
    if not isinstance(namer, Namer):
        raise NotANamer(namer)


def base_of(namer, text):
    """Return the first signs of the text, as many as the width says."""
    return text[:namer.width]


def numbered(namer, base, number):
    """Return the name with `~` and the number, for which `tight` cuts the base."""
    ending = f"~{number}"
    if namer.rule == "tight":
        return base[:namer.width - len(ending)] + ending
    return base + ending


def counted_name(namer, base, texts):
    """Return the name by the rule `count`, where these texts are there."""
    number = 1 + len([text for text in texts if base_of(namer, text) == base])
    return base if number == 1 else numbered(namer, base, number)


def free_name(namer, base, taken):
    """Return the first name by the rules `free` and `tight` that is not among those taken."""
    name = base
    number = 1
    while name in taken:
        number += 1
        name = numbered(namer, base, number)
    return name


def name_of_next(namer, text, texts, taken):
    """Return the name of a text that comes where these texts are there with the names taken; nothing is checked."""
    base = base_of(namer, text)
    if namer.rule == "count":
        return counted_name(namer, base, texts)
    return free_name(namer, base, taken)


def named(namer, texts):
    """Return the names of texts that come in this order; nothing is checked."""
    given = []
    for place, text in enumerate(texts):
        given.append(name_of_next(namer, text, texts[:place], given))
    return tuple(given)


def orders(many):
    """Return all orders of the places of so many texts, in ascending order."""
    found = [()]
    for size in range(many):
        found = [order + (place,) for order in found for place in range(many) if place not in order]
    return found


def named_in_order(namer, texts, order):
    """Return the names of the texts, in this order, if they come in it; nothing is checked."""
    return named(namer, tuple([texts[place] for place in order]))


def names(namer, texts):
    """Return the names that the texts get if they come in this order."""
    check_namer(namer)
    check_texts(texts, MOST_LISTED)
    return named(namer, texts)


def meeting(namer, texts):
    """Return an order of the places of the texts for which two of them get the same name, or None."""
    check_namer(namer)
    check_texts(texts, MOST_LISTED)
    for order in orders(len(texts)):
        if len(set(named_in_order(namer, texts, order))) < len(texts):
            return order
    return None


def possible_names(namer, texts, place):
    """Return, in ascending order, all names that the text at this place gets in any of the orders."""
    check_namer(namer)
    check_texts(texts, MOST_LISTED)
    if not is_integer(place, 0, len(texts) - 1):
        raise InvalidPlace(place)
    found = [named_in_order(namer, texts, order)[order.index(place)] for order in orders(len(texts))]
    return tuple(sorted(set(found)))
