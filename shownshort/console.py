"""A console that answers lines with a shelf."""

from shownshort.errors import InvalidLine, InvalidText, NothingToUndo, TooMany, UnknownName
from shownshort.shelves import Shelf

REFUSED = "refused"


def word_behind(line, order):
    """Return the word behind the order and one space if this is all that the line consists of, otherwise None."""
    front, space, word = line.partition(" ")
    if front != order or not word or " " in word:
        return None
    return word


class Console:
    """Answers lines that let texts come and go, take this back, or ask for the names."""

    def __init__(self, namer):
        self.shelf = Shelf(namer)

    def say(self, line):
        """Answer a line."""
        if not isinstance(line, str):
            raise InvalidLine(line)
        text = word_behind(line, "add")
        if text is not None:
            return self.answer_add(text)
        name = word_behind(line, "remove")
        if name is not None:
            return self.answer_remove(name)
        if line == "undo":
            return self.answer_undo()
        if line == "names":
            return self.answer_names()
        if line == "meet":
            return self.answer_meet()
        raise InvalidLine(line)

    def answer_add(self, text):
        """Let a text come and answer its name."""
        try:
            return self.shelf.add(text)
        except (InvalidText, TooMany):
            return REFUSED

    def answer_remove(self, name):
        """Let the text with this name go and answer it."""
        try:
            return self.shelf.remove(name)
        except UnknownName:
            return REFUSED

    def answer_undo(self):
        """Take back the last deed."""
        try:
            self.shelf.undo()
        except NothingToUndo:
            return REFUSED
        return "ok"

    def answer_names(self):
        """Answer the names, or that there are none."""
        # No line lets an empty text come; so every name can be seen.
        return " ".join(self.shelf.names) if self.shelf.names else "none"

    def answer_meet(self):
        """Answer whether two of the names are equal."""
        return "yes" if len(set(self.shelf.names)) < len(self.shelf.names) else "no"
