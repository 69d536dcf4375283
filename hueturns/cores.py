"""Which places are plain, and the core that is left when they are taken off."""

from hueturns.kinds import need_place
from hueturns.masks import joined_by, near_by_hue, pieces_within, places_of, reached_from
from hueturns.nets import need_net


def hues_to(net, place):
    """The pairs (piece, hues of the place's roads to it) for the pieces of all other places, ascending."""
    need_net(net)
    need_place(place, net.size)
    near = near_by_hue(net.size, net.roads)
    others = all_places(net.size) ^ (1 << place)
    return tuple([(places_of(piece), hues_into(near[place], piece))
                  for piece in pieces_within(joined_by(near), others)])


def is_plain(net, place):
    """Whether a place is plain among all places."""
    need_net(net)
    need_place(place, net.size)
    return is_plain_among(net, place, all_places(net.size))


def order_of(net):
    """The places in the order in which they are taken off, always the least plain one, till none is."""
    need_net(net)
    order, _ = taken_off(net.size, net.roads)
    return tuple(order)


def core(net):
    """The ascending tuple of the places that are left when no more can be taken off."""
    need_net(net)
    return places_of(core_mask(net.size, net.roads))


def core_pieces(net):
    """The ascending tuple of the pieces of the core."""
    left = core(net)
    return net.pieces(left)


def all_places(size):
    """The mask of all places of a net."""
    return (1 << size) - 1


def hues_into(by_hue, piece):
    """The string of the different hues of a place's roads to a piece, ascending."""
    return "".join(sorted([hue for hue, mask in by_hue.items() if mask & piece != 0]))


def is_plain_among(net, place, mask):
    """Whether a place is plain among the places of a mask, of which it is one."""
    near = near_by_hue(net.size, net.roads)
    return is_plain_beside(near[place], joined_by(near), mask ^ (1 << place))


def is_plain_beside(by_hue, joined, others):
    """Whether a place with these roads is plain among itself and these other places."""
    ahead = [mask & others for mask in by_hue.values() if mask & others != 0]
    while len(ahead) > 1:
        start = ahead.pop()
        # All pieces to which roads of this hue lead are gone through at once: no other hue may lead to one of them.
        if reached_from(joined, start, others, sum(ahead)) & sum(ahead) != 0:
            return False
    return True


def core_mask(size, roads):
    """The mask of the core of a net with these roads."""
    _, left = taken_off(size, roads)
    return left


def taken_off(size, roads):
    """The pair of the list of the places in the order in which they are taken off, and the mask of the core."""
    near = near_by_hue(size, roads)
    joined = joined_by(near)
    left = all_places(size)
    order = []
    plain = least_plain(near, joined, left)
    while plain is not None:
        order.append(plain)
        left = left ^ (1 << plain)
        plain = least_plain(near, joined, left)
    return order, left


def least_plain(near, joined, left):
    """The least one of the places that are left that is plain among them, None if there is none."""
    for place, by_hue in enumerate(near):
        bit = 1 << place
        if left & bit != 0 and is_plain_beside(by_hue, joined, left ^ bit):
            return place
    return None
