"""Paths: tuples of different places, each joined to the next one, that change their hue at every place."""


def hues_between(net):
    """For each place the list of the hues of its roads to all places, None where there is no road."""
    return [[net.hue(one, two) for two in range(net.size)] for one in range(net.size)]


def longer(hues, paths):
    """The paths that go one place further than these ones; they are ascending if these are as long and ascending."""
    return [(*path, place) for path in paths for place in places_behind(hues, path)]


def places_behind(hues, path):
    """The places to which a path can go on, ascending."""
    came = hues[path[-2]][path[-1]] if len(path) > 1 else None
    ahead = hues[path[-1]]
    return [place for place, hue in enumerate(ahead) if hue is not None and hue != came and place not in path]
