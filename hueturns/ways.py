"""Ways from place to place that change their hue at every place."""

from hueturns.kinds import need_at_most, need_hue, need_place, need_two_places
from hueturns.limits import MOST_LISTED
from hueturns.nets import need_net
from hueturns.paths import longer, roads_ahead


def ways(net, start, goal, first=None, last=None):
    """The tuple of all ways, those of few places first, that have this first and this last hue."""
    need_way(net, start, goal, first, last)
    need_at_most(net.size, MOST_LISTED)
    return tuple(found_ways(net, start, goal, (first, last), False))


def first_way(net, start, goal, first=None, last=None):
    """The first way that has this first and this last hue, None if there is none."""
    need_way(net, start, goal, first, last)
    found = found_ways(net, start, goal, (first, last), True)
    return found[0] if found else None


def far(net, start):
    """The tuple of how many roads the shortest ways to each place have, None where there is none."""
    need_net(net)
    need_place(start, net.size)
    ahead = roads_ahead(net.size, net.roads)
    numbers = {}
    paths = [no_road(start)]
    while paths and len(numbers) < net.size:
        for step in paths:
            numbers.setdefault(step[0][-1], len(step[0]) - 1)
        paths = longer(ahead, paths)
    return tuple([numbers.get(place) for place in range(net.size)])


def apart(net):
    """The ascending tuple of all pairs of places, the lesser one first, between which there is no way."""
    need_net(net)
    numbers = [far(net, place) for place in range(net.size)]
    return tuple([(low, high) for low in range(net.size) for high in range(low + 1, net.size)
                  if numbers[low][high] is None])


def need_way(net, start, goal, first, last):
    """Raises the error of the first argument that is not right where ways are asked for."""
    need_net(net)
    need_two_places(start, goal, net.size)
    for hue in (first, last):
        if hue is not None:
            need_hue(hue)


def found_ways(net, start, goal, ends, only_shortest):
    """All ways in their order that have these first and last hues, or only those of them with the fewest places."""
    first, last = ends
    ahead = roads_ahead(net.size, net.roads)
    found = []
    paths = [step for step in longer(ahead, [no_road(start)]) if first in (None, step[1])]
    while paths and not (only_shortest and found):
        found.extend([path for path, came, _ in paths if path[-1] == goal and last in (None, came)])
        paths = longer(ahead, [step for step in paths if step[0][-1] != goal])
    return found


def no_road(start):
    """The path that has not gone yet."""
    return ((start,), None, 1 << start)
