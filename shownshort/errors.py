"""The errors of the package."""


class InputError(ValueError):
    """Something that was given is not as it has to be."""


class InvalidNumber(InputError):
    """A limit, a head or a tail is not an integer from 0 to 40."""

    def __init__(self, value):
        self.value = value


class InvalidMark(InputError):
    """A mark is not a string of 0 to 3 signs."""

    def __init__(self, value):
        self.value = value


class InvalidText(InputError):
    """A text is not a string of at most 200 signs."""

    def __init__(self, value):
        self.value = value


class InvalidLength(InputError):
    """A length is not a count up to the greatest one that is let."""

    def __init__(self, value):
        self.value = value


class InvalidRule(InputError):
    """A rule, or the kind of a family, is none of the words for it."""

    def __init__(self, value):
        self.value = value


class InvalidWidth(InputError):
    """A width is not an integer in the range that is let."""

    def __init__(self, value):
        self.value = value


class InvalidPlace(InputError):
    """A place is not the place of one of the texts."""

    def __init__(self, value):
        self.value = value


class InvalidLine(InputError):
    """A line for a console has none of the forms that it answers."""

    def __init__(self, value):
        self.value = value


class NotANamer(InputError):
    """Something else was given where a namer is needed."""

    def __init__(self, value):
        self.value = value


class NotAShelf(InputError):
    """Something else was given where a shelf is needed."""

    def __init__(self, value):
        self.value = value


class InvalidRow(InputError):
    """A row is not a tuple of 1 to 4 shorteners."""

    def __init__(self, index):
        self.index = index


class InvalidViews(InputError):
    """Views are not a tuple of 1 to 4 views."""

    def __init__(self, index):
        self.index = index


class InvalidTexts(InputError):
    """Texts, or pairs of them, are not a tuple as it has to be."""

    def __init__(self, index):
        self.index = index


class InvalidDeeds(InputError):
    """One of several deeds has none of the forms of a deed."""

    def __init__(self, index):
        self.index = index


class StateError(LookupError):
    """What was asked for is not possible as things stand."""


class NothingToUndo(StateError):
    """No deed is in force that could be taken back."""


class Busy(StateError):
    """The shelf is in the course of doing several deeds."""


class UnknownName(StateError):
    """No text that is there has this name."""

    def __init__(self, value):
        self.value = value


class SizeError(ArithmeticError):
    """There is no room for more."""


class TooMany(SizeError):
    """As many texts are there as the limit lets."""

    def __init__(self, limit):
        self.limit = limit
