"""Some places together as one integer, their mask, in which the bit n is set for the place n."""


def mask_of(places):
    """The mask of different places."""
    return sum([1 << place for place in places])


def places_of(mask):
    """The ascending tuple of the places of a mask."""
    return tuple([place for place in range(mask.bit_length()) if (mask >> place) & 1 == 1])


def near_by_hue(size, roads):
    """For each place the dict that has for each hue of its roads the mask of the places to which these lead."""
    near = [{} for _ in range(size)]
    for low, high, hue in roads:
        near[low][hue] = near[low].get(hue, 0) | (1 << high)
        near[high][hue] = near[high].get(hue, 0) | (1 << low)
    return near


def joined_by(near):
    """For each place the mask of the places to which its roads of any hue lead."""
    return [sum(by_hue.values()) for by_hue in near]


def reached_from(joined, start, within, goals):
    """The mask of what can be reached within a mask from any place of `start`, or less if it meets `goals` already."""
    reached = start
    fresh = start
    while fresh != 0 and reached & goals == 0:
        least = fresh & -fresh
        more = joined[least.bit_length() - 1] & within & ~reached
        reached = reached | more
        fresh = (fresh ^ least) | more
    return reached


def pieces_within(joined, within):
    """The list of the masks of the pieces of these places, those with lesser places first."""
    found = []
    left = within
    while left != 0:
        piece = reached_from(joined, left & -left, left, 0)
        found.append(piece)
        left = left ^ piece
    return found
