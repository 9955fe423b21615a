"""The limits of houses, and of the questions about them."""

MOST_LINES = 3
MOST_STANDS = 6
MOST_KEYS = 3
MOST_ROWS = 16
MOST_CONDITIONS = 4
MOST_DEEDS = 4
MOST_PHONES = 20
MOST_SHAPES = 3000
