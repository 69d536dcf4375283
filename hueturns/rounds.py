"""Rounds: whether there is one, all of them, and what they have in common."""

from hueturns.cores import core_mask
from hueturns.errors import NoRoad
from hueturns.kinds import need_at_most, need_place, need_places, need_two_places
from hueturns.limits import MOST_LISTED
from hueturns.masks import places_of
from hueturns.nets import need_net, pair_of
from hueturns.paths import hues_between, longer, roads_ahead


def is_round(net, places):
    """Whether these places are a round, beginning anywhere, either way round."""
    need_net(net)
    need_places(places, net.size)
    return is_ring(hues_between(net.size, net.roads), places)


def has_round(net):
    """Whether there is a round."""
    need_net(net)
    return has_round_by(net.size, net.roads)


def first_round(net):
    """The first round, None if there is none."""
    need_net(net)
    found = told_rounds(net.size, net.roads, True)
    return found[0] if found else None


def rounds(net):
    """The tuple of all rounds, those of few places first."""
    need_net(net)
    need_at_most(net.size, MOST_LISTED)
    return tuple(told_rounds(net.size, net.roads, False))


def count_rounds(net):
    """The ascending tuple of the pairs (number of places, number of rounds with as many)."""
    numbers = {}
    for ring in rounds(net):
        numbers[len(ring)] = numbers.get(len(ring), 0) + 1
    return tuple(sorted(numbers.items()))


def in_all(net):
    """The ascending tuple of the pairs of places whose road is in each round, None if there is no round."""
    return in_common([pairs_along(ring) for ring in rounds(net)])


def key_places(net):
    """The ascending tuple of the places that each round has, None if there is no round."""
    return in_common(rounds(net))


def rounds_at(net, place):
    """The tuple of the rounds that have a place."""
    need_net(net)
    need_place(place, net.size)
    return tuple([ring for ring in rounds(net) if place in ring])


def rounds_by(net, one, two):
    """The tuple of the rounds that go along the road between two places."""
    need_net(net)
    need_two_places(one, two, net.size)
    if net.hue(one, two) is None:
        raise NoRoad()
    return tuple([ring for ring in rounds(net) if pair_of(one, two) in pairs_along(ring)])


def packed(net):
    """A tuple of as many rounds as can be, no two of which have a place in common."""
    firsts = {}
    for ring in rounds(net):
        # Of rounds through the same places one is enough: any other one can stand for it.
        firsts.setdefault(tuple(sorted(ring)), ring)
    return most_apart(list(firsts.values()))


def has_round_by(size, roads):
    """Whether there is a round by these roads."""
    # There is one exactly if the core is not empty.
    return core_mask(size, roads) != 0


def told_rounds(size, roads, only_shortest):
    """All rounds by these roads in their order, or only those with the fewest places."""
    left = core_mask(size, roads)
    # All rounds lie in the core.
    inner = [road for road in roads if (left >> road[0]) & (left >> road[1]) & 1 == 1]
    hues = hues_between(size, inner)
    ahead = roads_ahead(size, inner)
    # Rounds are told with their least place first: so paths do not go to lesser ones.
    paths = longer(ahead, [((place,), None, (2 << place) - 1) for place in places_of(left)])
    found = []
    while paths and not (only_shortest and found):
        found.extend([path for path, came, _ in paths if path[1] < path[-1]
                      and hues[path[0]][path[-1]] not in (None, came, hues[path[0]][path[1]])])
        paths = longer(ahead, paths)
    return found


def is_ring(hues, places):
    """Whether these places are a round."""
    if len(places) < 3 or len(set(places)) < len(places):
        return False
    # The first place stands behind the last one, as -1 is the index of the last one.
    along = [hues[places[at - 1]][place] for at, place in enumerate(places)]
    return None not in along and all([hue != along[at - 1] for at, hue in enumerate(along)])


def pairs_along(ring):
    """The pairs of places whose roads a round goes along."""
    return [pair_of(ring[at - 1], place) for at, place in enumerate(ring)]


def in_common(groups):
    """The ascending tuple of what all groups have, None if there are no groups."""
    if not groups:
        return None
    common = list(groups[0])
    for group in groups:
        common = [each for each in common if each in group]
    return tuple(sorted(common))


def most_apart(rings):
    """The first tuple of as many of these rounds as can be, no two of which have a place in common."""
    best = ()
    for at, ring in enumerate(rings):
        free = [other for other in rings[at + 1:] if are_apart(ring, other)]
        found = (ring, *most_apart(free))
        if len(found) > len(best):
            best = found
    return best


def are_apart(ring, other):
    """Whether two rounds have no place in common."""
    return not any([place in other for place in ring])
