"""Shelves: lists of named texts that come and go, with deeds that can be taken back or only tried."""

from shownshort.errors import Busy, InvalidDeeds, NotAShelf, NothingToUndo, TooMany, UnknownName
from shownshort.kinds import check_text, is_tuple
from shownshort.limits import MOST_SHELVED
from shownshort.names import check_namer, name_of_next

DEED_WORDS = ("add", "remove")


def is_deed(value):
    """Tell whether the value is a pair with one of the words for deeds in front."""
    return is_tuple(value, 2, 2) and isinstance(value[0], str) and value[0] in DEED_WORDS


def check_deeds(deeds):
    """Refuse deeds of which one has not the form of a deed."""
    for place, deed in enumerate(deeds):
        if not is_deed(deed):
            raise InvalidDeeds(place)


class Entry:
    """What a shelf was when a trial was entered, and the entry of the same trial around this one."""

    def __init__(self, shelf, outer):
        self.texts = shelf.texts
        self.names = shelf.names
        self.past = shelf.past
        self.outer = outer


class Trial:
    """Gives its block the shelf, and makes it again as it was when the block is left."""

    def __init__(self, shelf):
        self.shelf = shelf
        self.entry = None

    def __enter__(self):
        self.entry = Entry(self.shelf, self.entry)
        return self.shelf

    def __exit__(self, kind, value, trace):
        # Whether the shelf is busy stays as it is: leaving a block does not end a call of `do_all`.
        self.shelf.texts = self.entry.texts
        self.shelf.names = self.entry.names
        self.shelf.past = self.entry.past
        self.entry = self.entry.outer


class Shelf:
    """Holds texts with the names that a namer gave them when they came."""

    def __init__(self, namer):
        check_namer(namer)
        self.namer = namer
        self.busy = False
        # Tuples, which never change: what was kept of a shelf earlier stays what it was.
        self.texts = ()
        self.names = ()
        # For each deed in force, the texts and the names that were there before it.
        self.past = ()

    def __len__(self):
        return len(self.texts)

    def __repr__(self):
        return f"Shelf({len(self.texts)} texts)"

    def check_not_busy(self):
        """Refuse whatever is asked for in the course of `do_all`."""
        if self.busy:
            raise Busy()

    def become(self, texts, names):
        """Hold these texts and names by a deed that can be taken back."""
        self.past = self.past + ((self.texts, self.names),)
        self.texts = texts
        self.names = names

    def let_come(self, text):
        """Let a text come and return its name, in the course of `do_all` too."""
        check_text(text)
        if len(self.texts) >= MOST_SHELVED:
            raise TooMany(MOST_SHELVED)
        name = name_of_next(self.namer, text, self.texts, self.names)
        self.become(self.texts + (text,), self.names + (name,))
        return name

    def let_go(self, name):
        """Let the first text with this name go and return it, in the course of `do_all` too."""
        if not isinstance(name, str) or name not in self.names:
            raise UnknownName(name)
        place = self.names.index(name)
        text = self.texts[place]
        self.become(self.texts[:place] + self.texts[place + 1:], self.names[:place] + self.names[place + 1:])
        return text

    def do_deed(self, deed):
        """Do one deed of `do_all`."""
        word, told = deed
        if word == "add":
            self.let_come(told)
        else:
            self.let_go(told)

    def add(self, text):
        """Let a text come and return its name."""
        self.check_not_busy()
        return self.let_come(text)

    def remove(self, name):
        """Let the text with this name go, of several the one that came first, and return it."""
        self.check_not_busy()
        return self.let_go(name)

    def do_all(self, *deeds, watch=None):
        """Do all the deeds, calling `watch(shelf, place)` after each one, or, if an error comes out, none of them."""
        self.check_not_busy()
        check_deeds(deeds)
        texts, names, past = self.texts, self.names, self.past
        self.busy = True
        try:
            for place, deed in enumerate(deeds):
                self.do_deed(deed)
                if watch is not None:
                    watch(self, place)
            # Only if no error has ended the deeds, what they made of the shelf is kept.
            texts, names, past = self.texts, self.names, self.past
        finally:
            self.texts, self.names, self.past = texts, names, past
            self.busy = False

    def undo(self):
        """Take back the last deed that is still in force."""
        self.check_not_busy()
        if not self.past:
            raise NothingToUndo()
        self.texts, self.names = self.past[-1]
        self.past = self.past[:-1]

    def trial(self):
        """Return what a `with` enters to try something on the shelf; when it is left, all is as it was before."""
        self.check_not_busy()
        return Trial(self)


def within(trial, act):
    """Return what `act(shelf)` returns in the block of the trial."""
    with trial as shelf:
        return act(shelf)


def attempt(shelf, act):
    """Return what `act(shelf)` returns in the block of a new trial."""
    if not isinstance(shelf, Shelf):
        raise NotAShelf(shelf)
    return within(shelf.trial(), act)
