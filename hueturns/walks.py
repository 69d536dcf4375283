"""Walks, which may come back to places, and turns: for each number of roads, and for all numbers at once."""

from hueturns.kinds import need_at_most, need_number, need_place
from hueturns.limits import MOST_NUMBER, MOST_WALKED
from hueturns.nets import need_net

# How a walk can go on depends on its stand alone: the place where it is and the hue by which it came there. Some stands
# together are one integer that has one bit for each stand, six for each place: so those at a place are side by side.
# A turn leads from a stand at its place to this same stand: so its first road has another hue than its last one.

HUE_BITS = {"a": 1, "b": 2, "c": 4, "d": 8, "e": 16, "f": 32}
WIDTH = 6
ALL_HUES = 63
MOST_NUMBERED = 6


def has_walk(net, start, goal, many):
    """Whether there is a walk of just so many roads."""
    need_ends(net, start, goal)
    need_number(many, MOST_NUMBER)
    return goal in places_after(net, start, many)


def count_walks(net, start, goal, many):
    """How many walks of just so many roads there are."""
    need_ends(net, start, goal)
    need_number(many, MOST_WALKED)
    if many == 0:
        return 1 if start == goal else 0
    firsts, moves = moves_by(net)
    counts = {stand: 1 for stand in single_stands(firsts[start])}
    ahead = {stand: single_stands(further) for stand, further in moves.items()}
    for _ in range(many - 1):
        counts = counts_behind(ahead, counts)
    return sum([count for stand, count in counts.items() if stand & stands_at(goal) != 0])


def first_walk(net, start, goal, many):
    """The first walk of just so many roads, None if there is none."""
    need_ends(net, start, goal)
    need_number(many, MOST_WALKED)
    if many == 0:
        return (start,) if start == goal else None
    firsts, moves = moves_by(net)
    # From the stands at index n the goal can be reached by n roads more.
    hopeful = [stands_at(goal)]
    for _ in range(many - 1):
        hopeful.append(stands_behind(moves, hopeful[-1]))
    walk = [start]
    ahead = firsts[start]
    if ahead & hopeful[-1] == 0:
        return None
    for left in range(many - 1, -1, -1):
        # No two of the stands to which one can go are at the same place: so the first one is at the least place.
        stand = first_stand(ahead & hopeful[left])
        walk.append(place_of(stand))
        ahead = moves[stand]
    return tuple(walk)


def walk_numbers(net, start, goal):
    """The triple (numbers, begin, period) that tells of which numbers of roads there are walks."""
    need_ends(net, start, goal)
    need_at_most(net.size, MOST_NUMBERED)
    firsts, moves = moves_by(net)
    told, begin = told_till_repeated(moves, [firsts[start]], [stands_at(goal)])
    return as_triple([start == goal, *told], begin + 1)


def reach(net, start, many):
    """The ascending tuple of all places to which walks of just so many roads lead."""
    need_net(net)
    need_place(start, net.size)
    need_number(many, MOST_NUMBER)
    return places_after(net, start, many)


def has_turn(net, place, many):
    """Whether there is a turn of just so many roads at a place."""
    need_net(net)
    need_place(place, net.size)
    need_number(many, MOST_NUMBER)
    if many == 0:
        return False
    _, moves = moves_by(net)
    # One road alone never leads to the same stand.
    return any([moved_far(moves, home, many) & home != 0 for home in homes_at(moves, place)])


def turn_numbers(net, place):
    """The triple (numbers, begin, period) that tells of which numbers of roads there are turns."""
    need_net(net)
    need_place(place, net.size)
    need_at_most(net.size, MOST_NUMBERED)
    _, moves = moves_by(net)
    homes = homes_at(moves, place)
    told, begin = told_till_repeated(moves, [moves[home] for home in homes], homes)
    return as_triple([False, *told], begin + 1)


def need_ends(net, start, goal):
    """Raises the error of the first argument that is not right where walks are asked for."""
    need_net(net)
    need_place(start, net.size)
    need_place(goal, net.size)


def moves_by(net):
    """For each place the stands to which its roads lead, and for each stand those to which one road more leads."""
    firsts = [0] * net.size
    by_same = {}
    for low, high, hue in net.roads:
        at_low = HUE_BITS[hue] << (WIDTH * low)
        at_high = HUE_BITS[hue] << (WIDTH * high)
        firsts[low] = firsts[low] | at_high
        firsts[high] = firsts[high] | at_low
        # Who came by this hue does not go on by it.
        by_same[at_low] = by_same.get(at_low, 0) | at_high
        by_same[at_high] = by_same.get(at_high, 0) | at_low
    return firsts, {stand: firsts[place_of(stand)] ^ same for stand, same in by_same.items()}


def place_of(stand):
    """The place of a single stand."""
    return (stand.bit_length() - 1) // WIDTH


def stands_at(place):
    """All stands that there can be at a place."""
    return ALL_HUES << (WIDTH * place)


def first_stand(stands):
    """The first one of some stands."""
    return stands & -stands


def single_stands(stands):
    """The ascending list of the single ones of some stands."""
    singles = []
    left = stands
    while left != 0:
        stand = first_stand(left)
        singles.append(stand)
        left = left ^ stand
    return singles


def homes_at(moves, place):
    """The list of the single stands at a place to which roads lead."""
    return [stand for stand in moves if place_of(stand) == place]


def moved(moves, stands):
    """The stands to which one road more leads from some stands."""
    reached = 0
    left = stands
    while left != 0:
        stand = left & -left
        reached = reached | moves[stand]
        left = left ^ stand
    return reached


def stands_behind(moves, stands):
    """The stands from which one road more leads to some stands."""
    return sum([stand for stand, ahead in moves.items() if ahead & stands != 0])


def moved_far(moves, stands, many):
    """The stands to which so many roads more lead from some stands."""
    # What comes once comes again and again, and it does so after a few roads: then what is left of the number tells.
    numbers = {}
    order = []
    while stands not in numbers and len(order) < many:
        numbers[stands] = len(order)
        order.append(stands)
        stands = moved(moves, stands)
    if len(order) == many:
        return stands
    begin = numbers[stands]
    return order[begin + (many - begin) % (len(order) - begin)]


def places_after(net, start, many):
    """The ascending tuple of all places to which walks of just so many roads lead."""
    if many == 0:
        return (start,)
    firsts, moves = moves_by(net)
    stands = moved_far(moves, firsts[start], many - 1)
    return tuple([place for place in range(net.size) if stands & stands_at(place) != 0])


def counts_behind(ahead, counts):
    """How many walks with one road more come to which stand, from how many come to which."""
    behind = {}
    for stand, count in counts.items():
        for further in ahead[stand]:
            behind[further] = behind.get(further, 0) + count
    return behind


def told_till_repeated(moves, groups, homes):
    """Whether any group meets its home, for each number of moves from 0 on till all comes again, and from which on."""
    numbers = {}
    told = []
    while tuple(groups) not in numbers:
        numbers[tuple(groups)] = len(told)
        told.append(any([stands & home != 0 for stands, home in zip(groups, homes)]))
        groups = [moved(moves, stands) for stands in groups]
    return told, numbers[tuple(groups)]


def as_triple(told, begin):
    """The triple (numbers, least begin, least period) for what is told of each number and comes again from `begin`."""
    period = least_period(told[begin:])
    # Whatever comes again from an earlier number on has its least period there, too: so this one serves to go back.
    least = begin
    while least > 0 and told[least - 1] == told[least - 1 + period]:
        least -= 1
    return tuple([number for number in range(least + period) if told[number]]), least, period


def least_period(again):
    """The least period of what is said again and again."""
    for period in range(1, len(again)):
        if all([each == again[(at + period) % len(again)] for at, each in enumerate(again)]):
            return period
    return len(again)
