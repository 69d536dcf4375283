"""Wishes about the nets of a book: which values are wishes, and whether they hold."""

from hueturns.cores import is_plain
from hueturns.kinds import are_places, are_two_places, is_integer_from, is_name
from hueturns.limits import MOST_NUMBER, MOST_PLACES
from hueturns.rounds import has_round
from hueturns.walks import has_walk
from hueturns.ways import first_way

# What stands behind the word and the name: p for each place, n for a number of roads.
FORMS = {"round": "", "no round": "", "plain": "p", "way": "pp", "no way": "pp", "walk": "ppn"}


def is_wish(value):
    """Whether a value has one of the forms of wishes; anything may stand in the place of the name."""
    if not isinstance(value, tuple) or len(value) < 2 or not isinstance(value[0], str) or value[0] not in FORMS:
        return False
    form = FORMS[value[0]]
    numbers = value[2:]
    return len(numbers) == len(form) and all([fits(number, kind) for number, kind in zip(numbers, form)])


def fits(number, kind):
    """Whether a value may stand where a wish has something of this kind."""
    return is_integer_from(number, 0, MOST_NUMBER if kind == "n" else MOST_PLACES - 1)


def holds(nets, wish):
    """Whether a wish holds where these nets stand under their names."""
    name = wish[1]
    return is_name(name) and name in nets and holds_in(nets[name], wish)


def holds_in(net, wish):
    """Whether what a wish says is so in a net, whatever name it tells."""
    word = wish[0]
    places = wish[2:4]
    if word in ("round", "no round"):
        return has_round(net) == (word == "round")
    if not are_places(places, net.size):
        return False
    if word == "plain":
        return is_plain(net, places[0])
    if word == "walk":
        return has_walk(net, places[0], places[1], wish[4])
    return are_two_places(places[0], places[1], net.size) and has_way(net, places) == (word == "way")


def has_way(net, ends):
    """Whether there is a way between two different places."""
    return first_way(net, ends[0], ends[1]) is not None
