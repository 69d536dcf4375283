"""The limits of what the package works on."""

MOST_PLACES = 9
MOST_LISTED = 8
MOST_CHANGED = 7
MOST_ROADS = 12
MOST_UNKNOWN = 5
MOST_WALKED = 100
MOST_NUMBER = 10 ** 30
