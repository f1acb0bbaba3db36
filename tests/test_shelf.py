import itertools
import random
import unittest

from shownshort.errors import InvalidText, NotANamer, NothingToUndo, TooMany, UnknownName
from shownshort.names import Namer
from shownshort.shelves import Shelf
from tests.helper import (
    NAMER, NO_NAMERS, NO_NAMES, NO_TEXTS, RULES, TROUBLE, ModelledShelf, assert_equal_both_ways, assert_examples_hold,
    assert_refused, look, shelf_with, text_of, undone,
)
