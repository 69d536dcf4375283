"""Walks, which may come back to places, and turns: for each number of roads, and for all numbers at once."""

from hueturns.kinds import need_at_most, need_number, need_place
from hueturns.limits import MOST_NUMBER, MOST_WALKED
from hueturns.nets import need_net

# How a walk can go on depends on its stand alone: the pair of the place where it is and the hue by which it came there,
# None if it has not gone yet. Some stands together are one integer, in which the bit n is set for the stand n.
# A turn leads from a stand at its place to this same stand: so its first road has another hue than its last one.

MOST_NUMBERED = 6


def has_walk(net, start, goal, many):
    """Whether there is a walk of just so many roads."""
    need_ends(net, start, goal)
    need_number(many, MOST_NUMBER)
    return goal in places_after(net, start, many)


def count_walks(net, start, goal, many):
    """How many walks of just so many roads there are."""
    need_ends(net, start, goal)
    need_number(many, MOST_WALKED)
    counts = {(start, None): 1}
    for _ in range(many):
        counts = counts_behind(net, counts)
    return sum([count for (place, _), count in counts.items() if place == goal])


def first_walk(net, start, goal, many):
    """The first walk of just so many roads, None if there is none."""
    need_ends(net, start, goal)
    need_number(many, MOST_WALKED)
    stands = [(start, None), *arrivals(net)]
    moves = moves_between(net, stands)
    # From the stands at index n the goal can be reached by n roads more.
    hopeful = [bits_at(stands, goal)]
    for _ in range(many):
        hopeful.append(ahead_of(moves, hopeful[-1]))
    if not has_bit(hopeful[many], 0):
        return None
    walk = [start]
    at = 0
    for left in range(many - 1, -1, -1):
        # Stands are ascending, and no two of them to which one can go are at the same place.
        at = least_bit(moves[at] & hopeful[left])
        walk.append(stands[at][0])
    return tuple(walk)


def walk_numbers(net, start, goal):
    """The triple (numbers, begin, period) that tells of which numbers of roads there are walks."""
    need_ends(net, start, goal)
    need_at_most(net.size, MOST_NUMBERED)
    stands = [(start, None), *arrivals(net)]
    told, begin = told_till_repeated(moves_between(net, stands), [1], [bits_at(stands, goal)])
    return as_triple(told, begin)


def reach(net, start, many):
    """The ascending tuple of all places to which walks of just so many roads lead."""
    need_net(net)
    need_place(start, net.size)
    need_number(many, MOST_NUMBER)
    return places_after(net, start, many)


def has_turn(net, place, many):
    """Whether there is a turn of just so many roads at a place."""
    need_net(net)
    need_place(place, net.size)
    need_number(many, MOST_NUMBER)
    stands = arrivals(net)
    homes = single_bits_at(stands, place)
    # No road at all leads to the same stand, too, but is no turn. (One road never does.)
    return many > 0 and any_meets(moved_far(moves_between(net, stands), homes, many), homes)


def turn_numbers(net, place):
    """The triple (numbers, begin, period) that tells of which numbers of roads there are turns."""
    need_net(net)
    need_place(place, net.size)
    need_at_most(net.size, MOST_NUMBERED)
    stands = arrivals(net)
    moves = moves_between(net, stands)
    homes = single_bits_at(stands, place)
    told, begin = told_till_repeated(moves, [moved(moves, bits) for bits in homes], homes)
    # It is told from one road on, as no road at all is no turn, though it leads to the same stand.
    return as_triple([False, *told], begin + 1)


def need_ends(net, start, goal):
    """Raises the error of the first argument that is not right where walks are asked for."""
    need_net(net)
    need_place(start, net.size)
    need_place(goal, net.size)


def arrivals(net):
    """The ascending list of all stands to which roads lead."""
    return sorted({(place, hue) for place in range(net.size) for _, hue in net.roads_at(place)})


def moves_between(net, stands):
    """For each stand the ones to which one road more leads."""
    numbers = {stand: number for number, stand in enumerate(stands)}
    moves = []
    for place, came in stands:
        ahead = [numbers[(other, hue)] for other, hue in net.roads_at(place) if hue != came]
        moves.append(sum([1 << number for number in ahead]))
    return moves


def single_bits_at(stands, place):
    """The list of the stands at a place, each by itself."""
    return [1 << number for number, stand in enumerate(stands) if stand[0] == place]


def bits_at(stands, place):
    """All stands at a place together."""
    return sum(single_bits_at(stands, place))


def has_bit(bits, number):
    """Whether a stand is one of some stands."""
    return (bits >> number) & 1 == 1


def least_bit(bits):
    """The number of the first one of some stands."""
    return (bits & -bits).bit_length() - 1


def moved(moves, bits):
    """The stands to which these moves lead from some stands."""
    reached = 0
    for number, ahead in enumerate(moves):
        if has_bit(bits, number):
            reached |= ahead
    return reached


def ahead_of(moves, bits):
    """The stands from which one of these moves leads to some stands."""
    return sum([1 << number for number, ahead in enumerate(moves) if ahead & bits != 0])


def moved_far(moves, groups, many):
    """For each group of stands the ones to which so many of these moves lead."""
    left = many
    while left > 0:
        if left % 2 == 1:
            groups = [moved(moves, bits) for bits in groups]
        # From now on one move is what two were: so this takes as many steps as `many` has binary digits.
        moves = [moved(moves, bits) for bits in moves]
        left //= 2
    return groups


def any_meets(groups, homes):
    """Whether any group of stands has one in common with the one at its index in `homes`."""
    return any([bits & home != 0 for bits, home in zip(groups, homes)])


def places_after(net, start, many):
    """The ascending tuple of all places to which walks of just so many roads lead."""
    stands = [(start, None), *arrivals(net)]
    bits = moved_far(moves_between(net, stands), [1], many)[0]
    return tuple(sorted({stand[0] for number, stand in enumerate(stands) if has_bit(bits, number)}))


def counts_behind(net, counts):
    """How many walks with one road more stand where, from how many stand where."""
    behind = {}
    for (place, came), count in counts.items():
        for other, hue in net.roads_at(place):
            if hue != came:
                behind[(other, hue)] = behind.get((other, hue), 0) + count
    return behind


def told_till_repeated(moves, groups, homes):
    """Whether any group meets its home, for each number of moves from 0 on till all comes again, and from which on."""
    numbers = {}
    told = []
    while tuple(groups) not in numbers:
        numbers[tuple(groups)] = len(told)
        told.append(any_meets(groups, homes))
        groups = [moved(moves, bits) for bits in groups]
    return told, numbers[tuple(groups)]


def as_triple(told, begin):
    """The triple (numbers, least begin, least period) for what is told of each number and comes again from `begin`."""
    period = least_period(told[begin:])
    # Whatever comes again from an earlier number on has its least period there, too: so this one serves to go back.
    least = begin
    while least > 0 and told[least - 1] == told[least - 1 + period]:
        least -= 1
    return tuple([number for number in range(least + period) if told[number]]), least, period


def least_period(again):
    """The least period of what is said again and again."""
    for period in range(1, len(again)):
        if all([each == again[(at + period) % len(again)] for at, each in enumerate(again)]):
            return period
    return len(again)
