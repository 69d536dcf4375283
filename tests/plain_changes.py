"""What is so for unknown hues, and the fewest changes, searched for by the words of the document: one by one."""

import itertools

from hueturns.nets import Net
from tests.plain_search import core_of, has_ring, hues_of, rings_behind


def with_hues(net, pairs, hues):
    """The net in which the roads of these pairs have these hues."""
    new = dict(zip(pairs, hues))
    return Net(net.size, tuple((low, high, new.get((low, high), hue)) for low, high, hue in net.roads))


def all_hues(net, pairs, hues):
    """For each way to give hues to the pairs, as a string, the net that it makes."""
    texts = ["".join(text) for text in itertools.product(hues, repeat=len(pairs))]
    return {text: with_hues(net, pairs, text) for text in texts}


def told_for(net, pairs, hues):
    """For each way to give hues to the pairs whether there is a round."""
    return {text: has_ring(each) for text, each in all_hues(net, pairs, hues).items()}


def cores_for(net, pairs, hues):
    """The cores for all ways to give hues to the pairs."""
    return [core_of(each) for each in all_hues(net, pairs, hues).values()]


def first_best(told, pairs, hues):
    """The first pair that leaves least open, None if there are no pairs."""
    sums = []
    for at in range(len(pairs)):
        lesser = 0
        for hue in hues:
            left = [having for text, having in told.items() if text[at] == hue]
            lesser += min(sum(left), len(left) - sum(left))
        sums.append(lesser)
    return pairs[sums.index(min(sums))] if pairs else None


def fewest_closings(net):
    """All least sets of pairs without whose roads there is no round."""
    for many in range(len(net) + 1):
        found = [tuple(road[:2] for road in roads) for roads in itertools.combinations(net.roads, many)
                 if not has_ring(Net(net.size, tuple(road for road in net.roads if road not in roads)))]
        if found:
            return tuple(sorted(found))
    raise ValueError("a net without roads has no round")


def paintings(roads, hues):
    """All sets of new roads that these become by other hues."""
    return itertools.product(*([(low, high, hue) for hue in hues if hue != old] for low, high, old in roads))


def fewest_paintings(net, hues, having):
    """All least sets of new roads with which there is a round, or with which there is none; None above three roads."""
    for many in range(4):
        found = [new for roads in itertools.combinations(net.roads, many) for new in paintings(roads, hues)
                 if has_ring(with_hues(net, [road[:2] for road in new], [road[2] for road in new])) is having]
        if found:
            return tuple(sorted(found))
    return None


def spare_pairs(net):
    """The pairs of places whose road is in no round."""
    rings = [ring for place in range(net.size) for ring in rings_behind(hues_of(net), net.size, (place,))]
    along = {frozenset(pair) for ring in rings for pair in zip(ring, ring[1:] + ring[:1])}
    return tuple(road[:2] for road in net.roads if frozenset(road[:2]) not in along)
