"""Answers as claims for the checker, with certificates that it accepts."""

from hueturns.cores import core, order_of
from hueturns.kinds import need_at_most
from hueturns.limits import MOST_WALKED
from hueturns.rounds import first_round
from hueturns.walks import first_walk, has_walk
from hueturns.ways import first_way


def certify_round(net):
    """Whether there is a round."""
    ring = first_round(net)
    if ring is None:
        return ("no round", str(net)), order_of(net)
    return ("round", str(net)), ring


def certify_core(net):
    """What the core is."""
    left = core(net)
    return ("core", str(net), left), order_of(net)


def certify_way(net, start, goal):
    """Whether there is a way."""
    way = first_way(net, start, goal)
    if way is None:
        return ("no way", str(net), start, goal), ()
    return ("way", str(net), start, goal), way


def certify_walk(net, start, goal, many):
    """Whether there is a walk of so many roads."""
    if not has_walk(net, start, goal, many):
        return ("no walk", str(net), start, goal, many), ()
    need_at_most(many, MOST_WALKED)
    return ("walk", str(net), start, goal, many), first_walk(net, start, goal, many)
