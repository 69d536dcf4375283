"""The fewest changes of roads after which there is no round, or after which there is one."""

from hueturns.kinds import need_at_most, need_hues
from hueturns.limits import MOST_CHANGED, MOST_ROADS
from hueturns.nets import need_net, roads_without
from hueturns.rounds import has_round_by, pairs_along, told_rounds

# Sets of changes are looked for by one change more each time. What is wrong so far tells some changes, one of which is
# in each set that is enough and holds those that are made already: so only these are tried.

MOST_HUES = 6
MOST_PAINTED = 3


def least_closings(net):
    """All sets of as few pairs of places as can be without whose roads there is no round."""
    need_net(net)
    need_changeable(net)
    return least_sets(lambda closed: not has_round_by(net.size, roads_without(net, closed)),
                      lambda pairs: first_pairs(net, roads_without(net, pairs)), len(net))


def least_paintings(net, hues):
    """All sets of as few roads as can be, with new hues, such that there is no round; None if three are not enough."""
    need_paintable(net, hues)
    return least_sets(lambda painted: not has_round_by(net.size, roads_with(net.roads, painted)),
                      lambda roads: paintings_of_round(net, roads, hues), MOST_PAINTED)


def least_turnings(net, hues):
    """All sets of as few roads as can be, with new hues, such that there is a round; None if three are not enough."""
    need_paintable(net, hues)
    most = MOST_PAINTED
    found = {}
    for ring in all_rings(net):
        for roads in turnings_of(ring, hues, most):
            if len(roads) < most:
                most = len(roads)
                found = {}
            found[roads] = True
    return tuple(sorted(found)) if found else None


def spare_roads(net):
    """The ascending tuple of the pairs of places whose road is in no round."""
    need_net(net)
    need_changeable(net)
    rings = told_rounds(net.size, net.roads, False)
    needed = {pair: True for ring in rings for pair in pairs_along(ring)}
    return tuple([road[:2] for road in net.roads if road[:2] not in needed])


def need_changeable(net):
    """Raises TooGreat for a net with too many places or roads."""
    need_at_most(net.size, MOST_CHANGED)
    need_at_most(len(net), MOST_ROADS)


def need_paintable(net, hues):
    """Raises the error of the first argument that is not right where roads are painted."""
    need_net(net)
    need_hues(hues, MOST_HUES)
    need_changeable(net)


def least_sets(is_enough, changes_for, most):
    """The ascending tuple of all sets of as few changes as are enough, None if `most` changes are not."""
    tried = [()]
    for many in range(most + 1):
        found = [changes for changes in tried if is_enough(changes)]
        if found:
            return tuple(sorted(found))
        if many < most:
            tried = list({tuple(sorted([*changes, change])): True
                          for changes in tried for change in changes_for(changes)})
    return None


def roads_with(roads, painted):
    """These roads, with the new hues of those that are painted."""
    hues = {(low, high): hue for low, high, hue in painted}
    return [(low, high, hues.get((low, high), hue)) for low, high, hue in roads]


def new_roads(roads, painted, hues):
    """All roads that another hue makes of these ones, but for those that are painted already."""
    pairs = [road[:2] for road in painted]
    return [(low, high, hue) for low, high, old in roads if (low, high) not in pairs for hue in hues if hue != old]


def first_pairs(net, roads):
    """The pairs of places whose roads the first round by these roads goes along."""
    return pairs_along(told_rounds(net.size, roads, True)[0])


def paintings_of_round(net, painted, hues):
    """The roads one of which has to be painted, as they are then, for the first round that is left to go."""
    pairs = first_pairs(net, roads_with(net.roads, painted))
    return new_roads([road for road in net.roads if road[:2] in pairs], painted, hues)


def all_rings(net):
    """For each round that there would be if no two roads had one hue the list of its roads, in their order."""
    hues = {(low, high): hue for low, high, hue in net.roads}
    rings = told_rounds(net.size, [(low, high, (low, high)) for low, high, _ in net.roads], False)
    return [[(*pair, hues[pair]) for pair in pairs_along(ring)] for ring in rings]


def turnings_of(ring, hues, most):
    """All sets of as few roads as make a round of a ring by their new hues; none if `most` are not enough."""
    found = least_sets(lambda painted: first_clash(ring, painted) is None,
                       lambda roads: turnings_of_clash(ring, roads, hues), most)
    return () if found is None else found


def first_clash(ring, painted):
    """The first index in a ring whose road has the same hue as the road before it, None if there is none."""
    hues = [road[2] for road in roads_with(ring, painted)]
    for at, hue in enumerate(hues):
        if hue == hues[at - 1]:
            return at
    return None


def turnings_of_clash(ring, painted, hues):
    """The roads one of which has to be painted, as they are then, for the first clash in a ring to go."""
    at = first_clash(ring, painted)
    return new_roads([ring[at - 1], ring[at]], painted, hues)
