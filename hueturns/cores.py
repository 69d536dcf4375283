"""Which places are plain, and the core that is left when they are taken off."""

from hueturns.kinds import need_place
from hueturns.nets import need_net


def hues_to(net, place):
    """The pairs (piece, hues of the place's roads to it) for the pieces of all other places, ascending."""
    need_net(net)
    need_place(place, net.size)
    return hues_among(net, place, range(net.size))


def is_plain(net, place):
    """Whether a place is plain among all places."""
    need_net(net)
    need_place(place, net.size)
    return is_plain_among(net, place, range(net.size))


def order_of(net):
    """The places in the order in which they are taken off, always the least plain one, till none is."""
    need_net(net)
    order = []
    left = list(range(net.size))
    plain = least_plain(net, left)
    while plain is not None:
        order.append(plain)
        left = [place for place in left if place != plain]
        plain = least_plain(net, left)
    return tuple(order)


def core(net):
    """The ascending tuple of the places that are left when no more can be taken off."""
    order = order_of(net)
    return tuple([place for place in range(net.size) if place not in order])


def core_pieces(net):
    """The ascending tuple of the pieces of the core."""
    left = core(net)
    return net.pieces(left)


def hues_among(net, place, places):
    """The pairs (piece, hues of the place's roads to it) for the pieces of these places but for itself."""
    others = tuple([other for other in places if other != place])
    return tuple([(piece, hues_into(net, place, piece)) for piece in net.pieces(others)])


def hues_into(net, place, piece):
    """The string of the different hues of the place's roads to a piece, ascending."""
    return "".join(sorted({hue for other, hue in net.roads_at(place) if other in piece}))


def is_plain_among(net, place, places):
    """Whether a place is plain among these places, of which it is one."""
    return all([len(hues) <= 1 for _, hues in hues_among(net, place, places)])


def least_plain(net, places):
    """The first one of these places that is plain among them, None if there is none."""
    for place in places:
        if is_plain_among(net, place, places):
            return place
    return None
