"""The checker: whether a claim is shown to be true by a certificate, whoever wrote both."""

from hueturns.cores import is_plain_among
from hueturns.errors import InvalidText
from hueturns.kinds import are_places, are_two_places, is_integer_from
from hueturns.limits import MOST_NUMBER, MOST_WALKED
from hueturns.masks import mask_of
from hueturns.nets import Net
from hueturns.rounds import is_round
from hueturns.walks import has_walk
from hueturns.ways import first_way


def accepts(claim, certificate):
    """Whether this is a claim for the checker, and this a certificate for it."""
    if not isinstance(claim, tuple) or len(claim) < 2 or not isinstance(claim[0], str):
        return False
    word, text, *about = claim
    net = net_with(text)
    if net is None or LENGTHS.get(word) != len(claim):
        return False
    check = CHECKS[word]
    return check(net, certificate, *about)


def net_with(text):
    """The net with this text, None if there is none."""
    try:
        return Net.read(text)
    except InvalidText:
        return None


def shows_round(net, certificate):
    """Whether the certificate is a round."""
    return are_places(certificate, net.size) and is_round(net, certificate)


def shows_no_round(net, certificate):
    """Whether all places can be taken off in the order of the certificate."""
    return shows_core(net, certificate, ())


def shows_core(net, certificate, places):
    """Whether all other places can be taken off in the order of the certificate, and none of these ones then."""
    if not are_places(places, net.size) or not are_places(certificate, net.size):
        return False
    if list(places) != sorted(set(places)) or sorted([*certificate, *places]) != list(range(net.size)):
        return False
    if any([is_plain_among(net, place, mask_of(places)) for place in places]):
        return False
    return all([is_plain_among(net, place, mask_of([*certificate[at:], *places]))
                for at, place in enumerate(certificate)])


def shows_way(net, certificate, start, goal):
    """Whether the certificate is a way."""
    if not are_two_places(start, goal, net.size) or not joins(net, certificate, start, goal):
        return False
    return len(set(certificate)) == len(certificate)


def shows_no_way(net, certificate, start, goal):
    """Whether the certificate is empty, and there is no way."""
    if not are_two_places(start, goal, net.size) or not is_empty(certificate):
        return False
    return first_way(net, start, goal) is None


def shows_walk(net, certificate, start, goal, many):
    """Whether the certificate is a walk of so many roads."""
    if not is_integer_from(many, 0, MOST_WALKED) or not joins(net, certificate, start, goal):
        return False
    return len(certificate) == many + 1


def shows_no_walk(net, certificate, start, goal, many):
    """Whether the certificate is empty, and there is no walk of so many roads."""
    if not are_places((start, goal), net.size) or not is_integer_from(many, 0, MOST_NUMBER):
        return False
    return is_empty(certificate) and not has_walk(net, start, goal, many)


def is_empty(certificate):
    """Whether a certificate is the empty tuple."""
    return isinstance(certificate, tuple) and len(certificate) == 0


def joins(net, places, start, goal):
    """Whether these are places from `start` to `goal`, along roads that change their hue everywhere."""
    if not are_places((start, goal), net.size) or not are_places(places, net.size) or len(places) == 0:
        return False
    hues = [net.hue(one, two) for one, two in zip(places, places[1:])]
    if None in hues or any([one == two for one, two in zip(hues, hues[1:])]):
        return False
    return places[0] == start and places[-1] == goal


# For each word how many elements its claims have, and what looks at their certificates.
LENGTHS = {"round": 2, "no round": 2, "core": 3, "way": 4, "no way": 4, "walk": 5, "no walk": 5}
CHECKS = {"round": shows_round, "no round": shows_no_round, "core": shows_core, "way": shows_way,
          "no way": shows_no_way, "walk": shows_walk, "no walk": shows_no_walk}
