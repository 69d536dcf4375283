"""Consoles: desks that are led by lines."""

from hueturns.cores import order_of
from hueturns.desks import Desk
from hueturns.errors import InvalidLine, InvalidNumber, InvalidPlace, NoRoad, NothingToUndo, TooGreat
from hueturns.kinds import is_hue
from hueturns.rounds import first_round, rounds
from hueturns.walks import has_walk
from hueturns.ways import first_way

DIGITS = "0123456789"


class Console:
    """A desk by lines."""

    def __init__(self, net):
        self._desk = Desk(net)

    def say(self, line):
        """The answer to a line."""
        word, values = understood(line)
        try:
            return answered(self._desk, word, values)
        except InvalidPlace:
            return "InvalidPlace"
        except InvalidNumber:
            return "InvalidNumber"
        except NoRoad:
            return "NoRoad"
        except TooGreat:
            return "TooGreat"
        except NothingToUndo:
            return "NothingToUndo"


def understood(line):
    """The first word of a line and the list of the values behind it; InvalidLine for what is no line."""
    if not isinstance(line, str):
        raise InvalidLine(line)
    words = line.split(" ")
    form = FORMS.get(words[0])
    if form is None or len(words) != 1 + len(form):
        raise InvalidLine(line)
    if not all([fits(word, kind) for word, kind in zip(words[1:], form)]):
        raise InvalidLine(line)
    return words[0], [int(word) if kind == "n" else word for word, kind in zip(words[1:], form)]


def fits(word, kind):
    """Whether a word is an integer without needless zeros, or a hue, as this kind asks for."""
    if kind == "h":
        return is_hue(word)
    if word == "" or not all([letter in DIGITS for letter in word]):
        return False
    return word == "0" or word[0] != "0"


def answered(desk, word, values):
    """The answer of a desk to a line that begins with this word."""
    answer = ANSWERS[word]
    return answer(desk, *values)


def in_words(places):
    """Places with single spaces between; `none` if there are none."""
    return " ".join([str(place) for place in places]) if places else "none"


def paint(desk, one, two, hue):
    """The answer to `paint I J H`."""
    desk.paint(one, two, hue)
    return "ok"


def close(desk, one, two):
    """The answer to `close I J`."""
    desk.close(one, two)
    return "ok"


def swap(desk, one, two):
    """The answer to `swap I J`."""
    desk.swap(one, two)
    return "ok"


def grow(desk):
    """The answer to `grow`."""
    desk.grow()
    return "ok"


def drop(desk):
    """The answer to `drop`."""
    desk.drop()
    return "ok"


def undo(desk):
    """The answer to `undo`."""
    desk.undo()
    return "ok"


def show(desk):
    """The answer to `show`."""
    return str(desk.net)


def show_round(desk):
    """The answer to `round`."""
    return in_words(first_round(desk.net))


def show_rounds(desk):
    """The answer to `rounds`."""
    return str(len(rounds(desk.net)))


def show_core(desk):
    """The answer to `core`."""
    return in_words(desk.core)


def show_order(desk):
    """The answer to `order`."""
    return in_words(order_of(desk.net))


def show_way(desk, start, goal):
    """The answer to `way I J`."""
    return in_words(first_way(desk.net, start, goal))


def show_walk(desk, start, goal, many):
    """The answer to `walk I J N`."""
    return "yes" if has_walk(desk.net, start, goal, many) else "no"


# For each first word what stands behind it, n for an integer and h for a hue, and what answers it.
FORMS = {"paint": "nnh", "close": "nn", "swap": "nn", "grow": "", "drop": "", "undo": "", "show": "", "round": "",
         "rounds": "", "core": "", "order": "", "way": "nn", "walk": "nnn"}
ANSWERS = {"paint": paint, "close": close, "swap": swap, "grow": grow, "drop": drop, "undo": undo, "show": show,
           "round": show_round, "rounds": show_rounds, "core": show_core, "order": show_order, "way": show_way,
           "walk": show_walk}
