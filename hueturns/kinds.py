"""Whether values are of the kinds that the package speaks of, and the errors where they are not."""

from hueturns.errors import (InvalidHue, InvalidHues, InvalidName, InvalidNumber, InvalidPlace, InvalidPlaces,
                             TooGreat)
from hueturns.limits import MOST_PLACES

HUES = "abcdef"
LETTERS = "abcdefghijklmnopqrstuvwxyz"
MOST_LETTERS = 8


def is_integer(value):
    """Whether a value is an integer; True and False are none."""
    return isinstance(value, int) and not isinstance(value, bool)


def is_integer_from(value, least, most):
    """Whether a value is an integer from the least one to the most one."""
    return is_integer(value) and least <= value <= most


def is_size(value):
    """Whether a value is the size of a net."""
    return is_integer_from(value, 1, MOST_PLACES)


def is_place(value, size):
    """Whether a value is a place of the nets of this size."""
    return is_integer_from(value, 0, size - 1)


def are_places(value, size):
    """Whether a value is a tuple of places of the nets of this size."""
    return isinstance(value, tuple) and all([is_place(place, size) for place in value])


def are_two_places(one, two, size):
    """Whether both values are places of the nets of this size, and different."""
    return is_place(one, size) and is_place(two, size) and one != two


def is_name(value):
    """Whether a value is a name."""
    if not isinstance(value, str) or not 1 <= len(value) <= MOST_LETTERS:
        return False
    return all([letter in LETTERS for letter in value])


def is_hue(value):
    """Whether a value is a hue."""
    # A string of no letter or of several ones may be within HUES, too.
    return isinstance(value, str) and len(value) == 1 and value in HUES


def are_hues(value, most):
    """Whether a value is an ascending string of one to so many different hues."""
    if not isinstance(value, str) or not 1 <= len(value) <= most:
        return False
    return all([is_hue(hue) for hue in value]) and sorted(set(value)) == list(value)


def need_place(place, size):
    """Raises InvalidPlace for what is no place of the nets of this size."""
    if not is_place(place, size):
        raise InvalidPlace(place)


def need_two_places(one, two, size):
    """Raises InvalidPlace for the first one that is no place, or for the second one if it is the first one."""
    need_place(one, size)
    need_place(two, size)
    if one == two:
        raise InvalidPlace(two)


def need_hue(hue):
    """Raises InvalidHue for what is no hue."""
    if not is_hue(hue):
        raise InvalidHue(hue)


def need_hues(hues, most):
    """Raises InvalidHues for what is no ascending string of one to so many different hues."""
    if not are_hues(hues, most):
        raise InvalidHues(hues)


def need_name(name):
    """Raises InvalidName for what is no name."""
    if not is_name(name):
        raise InvalidName(name)


def need_number(number, most):
    """Raises InvalidNumber for what is no integer from 0 to the most one."""
    if not is_integer_from(number, 0, most):
        raise InvalidNumber(number)


def need_at_most(number, most):
    """Raises TooGreat for a number above the most one."""
    if number > most:
        raise TooGreat(number)


def need_places(places, size):
    """Raises InvalidPlaces for what is no tuple of places of the nets of this size."""
    if not isinstance(places, tuple):
        raise InvalidPlaces(None)
    for index, place in enumerate(places):
        if not is_place(place, size):
            raise InvalidPlaces(index)


def need_ascending_places(places, size):
    """Raises InvalidPlaces for what is no ascending tuple of places of the nets of this size."""
    if not isinstance(places, tuple):
        raise InvalidPlaces(None)
    for index, place in enumerate(places):
        if not is_place(place, size):
            raise InvalidPlaces(index)
        if index > 0 and place <= places[index - 1]:
            raise InvalidPlaces(index)
