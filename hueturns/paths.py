"""Paths: tuples of different places, each joined to the next one, that change their hue at every place.

Each is kept as a triple: the path, the hue by which it came to its last place (None if it has not gone yet), and the
mask of the places to which it may not go any more.
"""


def hues_between(size, roads):
    """For each place the list of the hues of its roads to all places, None where there is no road."""
    hues = [[None] * size for _ in range(size)]
    for low, high, hue in roads:
        hues[low][high] = hue
        hues[high][low] = hue
    return hues


def roads_ahead(size, roads):
    """For each place the ascending list of the triples (other place, hue, mask of it) of its roads."""
    ahead = [[] for _ in range(size)]
    # Roads are ascending, and those from lesser places come first: nothing needs to be sorted.
    for low, high, hue in roads:
        ahead[low].append((high, hue, 1 << high))
        ahead[high].append((low, hue, 1 << low))
    return ahead


def longer(ahead, paths):
    """The paths that go one place further than these ones; they are ascending if these are as long and ascending."""
    return [((*path, place), hue, taken | mask) for path, came, taken in paths
            for place, hue, mask in ahead[path[-1]] if hue != came and taken & mask == 0]
