"""The limits that the document names."""

MOST_NAME = 8
MOST_MARKS = 4
MOST_NUMBER = 10 ** 12
MOST_TIES = 12
MOST_FACTOR = 10
