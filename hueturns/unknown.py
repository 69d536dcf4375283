"""Nets in which the hues of some roads are not known: what is so for all hues that they may have."""

from hueturns.cores import core_mask
from hueturns.errors import InvalidPairs
from hueturns.kinds import is_place, need_hues
from hueturns.limits import MOST_UNKNOWN
from hueturns.masks import places_of
from hueturns.nets import need_net, roads_without
from hueturns.rounds import has_round_by

MOST_HUES = 4


def chances(net, pairs, hues):
    """The pair of how many ways to give hues to the pairs there are with a round, and how many there are in all."""
    told = rounds_told(net, pairs, hues)
    return sum(told.values()), len(told)


def verdict(net, pairs, hues):
    """Whether there is a round for all hues, for some or for none: "surely", "perhaps" or "never"."""
    having, every = chances(net, pairs, hues)
    if having == every:
        return "surely"
    return "perhaps" if having > 0 else "never"


def best_pair(net, pairs, hues):
    """The first one of the pairs whose hue, once it is known, leaves least open; None if there are no pairs."""
    told = rounds_told(net, pairs, hues)
    open_then = [left_open(told, index, hues) for index in range(len(pairs))]
    return pairs[open_then.index(min(open_then))] if pairs else None


def hues_for(net, pairs, hues):
    """The first string of hues for the pairs with which there is a round, None if there is none."""
    return first_told(rounds_told(net, pairs, hues), True)


def hues_against(net, pairs, hues):
    """The first string of hues for the pairs with which there is no round, None if there is none."""
    return first_told(rounds_told(net, pairs, hues), False)


def sure_places(net, pairs, hues):
    """The ascending tuple of the places that are in the core for all hues."""
    need_unknown(net, pairs, hues)
    known = roads_without(net, pairs)
    sure = (1 << net.size) - 1
    for text in all_texts(hues, len(pairs)):
        sure = sure & core_mask(net.size, [*known, *roads_of(pairs, text)])
    return places_of(sure)


def need_unknown(net, pairs, hues):
    """Raises the error of the first argument that is not right where hues are not known."""
    need_net(net)
    need_pairs(net, pairs)
    need_hues(hues, MOST_HUES)


def need_pairs(net, pairs):
    """Raises InvalidPairs for what is no ascending tuple of up to five pairs of joined places."""
    if not isinstance(pairs, tuple):
        raise InvalidPairs(None)
    for index, pair in enumerate(pairs):
        if not is_joined_pair(net, pair) or index == MOST_UNKNOWN:
            raise InvalidPairs(index)
        if index > 0 and pair <= pairs[index - 1]:
            raise InvalidPairs(index)


def is_joined_pair(net, value):
    """Whether a value is a pair of places, the lesser one first, with a road between."""
    if not isinstance(value, tuple) or len(value) != 2:
        return False
    low, high = value
    return is_place(low, net.size) and is_place(high, net.size) and low < high and net.hue(low, high) is not None


def rounds_told(net, pairs, hues):
    """The dict that tells for each string of hues for the pairs, ascending, whether there is a round with it."""
    need_unknown(net, pairs, hues)
    known = roads_without(net, pairs)
    # A round by known roads is there for all hues.
    surely = has_round_by(net.size, known)
    return {text: surely or has_round_by(net.size, [*known, *roads_of(pairs, text)])
            for text in all_texts(hues, len(pairs))}


def roads_of(pairs, text):
    """The roads of the pairs with the hues of a string."""
    return [(low, high, hue) for (low, high), hue in zip(pairs, text)]


def all_texts(hues, many):
    """The ascending list of all strings of so many of these hues."""
    texts = [""]
    for _ in range(many):
        texts = [text + hue for text in texts for hue in hues]
    return texts


def first_told(told, having):
    """The first string of hues with which there is a round, or with which there is none; None if there is none."""
    for text, has in told.items():
        if has == having:
            return text
    return None


def left_open(told, index, hues):
    """The sum over all hues that a pair may have of the lesser one of the numbers of ways with and without a round."""
    lesser = 0
    for hue in hues:
        having = [has for text, has in told.items() if text[index] == hue]
        lesser += min(having.count(True), having.count(False))
    return lesser
