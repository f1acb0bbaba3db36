"""The greatest numbers that the package lets."""

MOST_SIGNS = 40
MOST_MARK = 3
MOST_ROW = 4
MOST_VIEWS = 4
MOST_TEXT = 200
MOST_LENGTH = 500
MOST_LISTED = 6
MOST_SHELVED = 20
