"""What the package must find, searched for as plainly as can be: by the words of the document, and slowly."""

import functools
import itertools

from hueturns.nets import Net
from tests.samples import every_pair

# Nets of six places of which it takes some roads till the numbers of walks or of turns come again and again.
LONG = tuple(map(Net.read, (
    "6: 0-2d 0-4b 1-4c 1-5a 2-3c 2-4b 3-5b", "6: 0-2c 0-4a 1-2b 1-3a 1-4b 1-5a 3-4a 3-5b 4-5a",
    "6: 0-2a 0-5b 1-3a 1-4b 2-4c 2-5a 3-4b 3-5b", "6: 0-4d 0-5c 1-2a 1-4d 1-5d 2-5d 3-4a 3-5c",
    "6: 0-3a 0-4b 1-2a 1-3b 1-5a 2-5b 3-4a", "6: 0-3b 0-4c 1-2c 1-3a 1-4a 1-5c 2-5b",
    "6: 0-1a 0-2a 0-5b 1-3b 1-4b 2-3b 2-5a 3-4a", "6: 0-1a 0-5b 1-2b 1-5d 2-3a 2-5d 4-5d",
    "6: 0-2b 0-5d 1-4b 1-5a 2-4d 2-5b 3-4d 3-5a", "6: 0-1a 0-5b 1-2b 2-3a 3-4b 4-5a")))

# Nets of nine places in which where walks stand comes again only after more than hundred roads.
LATE = tuple(map(Net.read, (
    "9: 0-2b 0-4a 1-2e 1-8a 2-4b 3-5f 3-7c 4-8a 5-6e 5-7f 6-8b",
    "9: 0-3f 0-4b 1-2d 1-4e 2-6e 3-4b 3-7c 4-7b 5-6c 5-8b 6-8c",
    "9: 0-3b 0-4e 0-5b 1-3d 1-8b 2-4b 2-6f 3-8b 4-6b 5-7d 7-8e")))


def all_nets(size, hues):
    """All nets of a size with these hues."""
    pairs = every_pair(size)
    return [Net(size, tuple((*pair, hue) for pair, hue in zip(pairs, table) if hue))
            for table in itertools.product((None, *hues), repeat=len(pairs))]


def hues_of(net):
    """The hues of the roads, both ways."""
    return hues_by(net.roads)


@functools.lru_cache(maxsize=None)
def hues_by(roads):
    """The hues of these roads, both ways."""
    return {pair: hue for low, high, hue in roads for pair in ((low, high), (high, low))}


def pieces_of(net, places):
    """The pieces of some places: sets that roads between these places put together, as often as they can."""
    pieces = [{place} for place in places]
    for low, high, _ in net.roads:
        if low in places and high in places:
            ones = [piece for piece in pieces if low in piece or high in piece]
            pieces = [piece for piece in pieces if piece not in ones] + [set().union(*ones)]
    return sorted(tuple(sorted(piece)) for piece in pieces)


def is_plain_in(net, place, places):
    """Whether a place is plain among some places."""
    hues = hues_of(net)
    others = [other for other in places if other != place]
    return all(len({hues[place, other] for other in piece if (place, other) in hues}) < 2
               for piece in pieces_of(net, others))


def core_of(net):
    """The core: what is left when plain places are taken off as long as there are any."""
    left = list(range(net.size))
    while any(is_plain_in(net, place, left) for place in left):
        left = [place for place in left if place != [each for each in left if is_plain_in(net, each, left)][-1]]
    return tuple(left)


def is_path(net, places):
    """Whether each of these places is joined to the next one, with another hue than to the one before it."""
    hues = hues_of(net)
    steps = list(zip(places, places[1:]))
    return (all(step in hues for step in steps)
            and all(hues[one] != hues[two] for one, two in zip(steps, steps[1:])))


def all_rounds(net):
    """All rounds, in the order of the document."""
    return tuple(ring for many in range(3, net.size + 1) for ring in itertools.permutations(range(net.size), many)
                 if ring[0] == min(ring) and ring[1] < ring[-1] and is_path(net, ring + ring[:2]))


def rings_behind(hues, size, path):
    """All rounds as they are told that begin with this path, in no order; quick enough for nine places."""
    found = [path] if len(path) > 2 and path[1] < path[-1] and is_closed(hues, path) else []
    for place in range(path[0] + 1, size):
        hue = hues.get((path[-1], place))
        if hue and place not in path and (len(path) == 1 or hue != hues[path[-2], path[-1]]):
            found.extend(rings_behind(hues, size, (*path, place)))
    return found


def is_closed(hues, path):
    """Whether a road joins the last place of a path to its first one, with another hue than its neighbours."""
    hue = hues.get((path[-1], path[0]))
    return hue not in (None, hues[path[0], path[1]], hues[path[-2], path[-1]])


def first_ring(net):
    """The first round, None if there is none."""
    hues = hues_of(net)
    found = [ring for place in range(net.size) for ring in rings_behind(hues, net.size, (place,))]
    return min(found, key=lambda ring: (len(ring), ring), default=None)


def has_ring(net):
    """Whether there is a round; quick enough for many nets of seven places."""
    hues = hues_of(net)
    return any(rings_behind(hues, net.size, (place,)) for place in range(net.size))


def all_ways(net, start, goal):
    """All ways from one place to another one, in the order of the document."""
    others = [place for place in range(net.size) if place not in (start, goal)]
    return tuple((start, *between, goal) for many in range(len(others) + 1)
                 for between in itertools.permutations(others, many) if is_path(net, (start, *between, goal)))


def all_walks(net, start, many):
    """All walks of just so many roads from a place, ascending."""
    walks = [(start,)]
    for _ in range(many):
        walks = [(*walk, place) for walk in walks for place in range(net.size)
                 if is_path(net, (*walk[-2:], place))]
    return walks


def stands_behind(net, stands):
    """Where walks can stand one road further, from where they can stand: sets of pairs (place, hue they came by)."""
    return frozenset((other, hue) for place, came in stands
                     for (one, other), hue in hues_of(net).items() if one == place and hue != came)


def stand_sets(net, stands, many):
    """Where walks can stand after each number of roads below `many`."""
    found = [frozenset(stands)]
    while len(found) < many:
        found.append(stands_behind(net, found[-1]))
    return found


def stands_after(net, stands, many):
    """Where walks can stand after so many roads: step by step till something comes again."""
    seen = {}
    order = []
    now = frozenset(stands)
    while now not in seen:
        seen[now] = len(order)
        order.append(now)
        now = stands_behind(net, now)
    if many < len(order):
        return order[many]
    return order[seen[now] + (many - seen[now]) % (len(order) - seen[now])]


def walks_told(net, start, goal, many):
    """Whether there is a walk, for each number of roads below `many`."""
    return [any(place == goal for place, _ in stands) for stands in stand_sets(net, [(start, None)], many)]


def turns_told(net, place, many):
    """Whether there is a turn at a place, for each number of roads below `many`."""
    told = [False] * many
    firsts = [(other, hue) for (one, other), hue in hues_of(net).items() if one == place]
    for other, first in firsts:
        for roads, stands in enumerate(stand_sets(net, [(other, first)], many - 1), 1):
            if roads >= 2 and any(where == place and last != first for where, last in stands):
                told[roads] = True
    return told


def triple_of(told, most):
    """The triple for what is told of all numbers, if neither begin nor period is above `most`."""
    for begin in range(most + 1):
        for period in range(1, most + 1):
            if all(told[at] == told[at + period] for at in range(begin, len(told) - period)):
                return tuple(at for at in range(begin + period) if told[at]), begin, period
    raise ValueError("nothing comes again")
