"""The greatest numbers and lengths that the program works with."""

MOST_SIGNS = 4
MOST_STATES = 6
MOST_WORD = 600
MOST_STANDS = 600
MOST_ROUNDS = 99
MOST_TOTAL = 30
MOST_LENGTH = 9
MOST_CHANGES = 6
MOST_WARM = 9
MOST_TIMES = 9
