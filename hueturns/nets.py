"""Nets: places, and roads between them, each of which has a hue."""

from hueturns.errors import InvalidNumber, InvalidRoads, InvalidText, NoRoad, NotANet
from hueturns.kinds import (is_hue, is_place, is_size, need_ascending_places, need_at_most, need_hue, need_place,
                            need_two_places)
from hueturns.masks import joined_by, mask_of, near_by_hue, pieces_within, places_of

DIGITS = "0123456789"
MOST_EXCHANGED = 7


class Net:
    """A number of places and the roads between them; it never changes."""

    def __init__(self, size, roads):
        if not is_size(size):
            raise InvalidNumber(size)
        if not isinstance(roads, tuple):
            raise InvalidRoads(None)
        wrong = first_wrong_road(roads, size)
        if wrong is not None:
            raise InvalidRoads(wrong)
        self._size = size
        self._roads = roads
        self._hues = {(low, high): hue for low, high, hue in roads}

    @staticmethod
    def read(text):
        """The net with this text."""
        if not isinstance(text, str):
            raise InvalidText(text)
        words = text.split(" ")
        size = size_in(words[0])
        roads = tuple([road_in(word) for word in words[1:]])
        if not is_size(size) or first_wrong_road(roads, size) is not None:
            raise InvalidText(text)
        return Net(size, roads)

    @property
    def size(self):
        """How many places there are."""
        return self._size

    @property
    def roads(self):
        """The ascending tuple of the roads."""
        return self._roads

    def hue(self, one, two):
        """The hue of the road between two places, None if there is none."""
        need_place(one, self._size)
        need_place(two, self._size)
        return self._hues.get(pair_of(one, two))

    def roads_at(self, place):
        """The ascending tuple of the pairs (other place, hue) of the roads of a place."""
        need_place(place, self._size)
        before = [(low, hue) for low, high, hue in self._roads if high == place]
        behind = [(high, hue) for low, high, hue in self._roads if low == place]
        # Roads are ascending, and all lesser places stand in `before`: nothing needs to be sorted.
        return (*before, *behind)

    def pieces(self, places):
        """The ascending tuple of the pieces of these places."""
        need_ascending_places(places, self._size)
        joined = joined_by(near_by_hue(self._size, self._roads))
        return tuple([places_of(piece) for piece in pieces_within(joined, mask_of(places))])

    def painted(self, one, two, hue):
        """The net in which the road between both places, old or new, has this hue."""
        need_two_places(one, two, self._size)
        need_hue(hue)
        return Net(self._size, tuple(sorted([*roads_without(self, [pair_of(one, two)]), road_of(one, two, hue)])))

    def closed(self, one, two):
        """The net without the road between both places."""
        need_two_places(one, two, self._size)
        if self.hue(one, two) is None:
            raise NoRoad()
        return Net(self._size, tuple(roads_without(self, [pair_of(one, two)])))

    def swapped(self, one, two):
        """The net in which both places have changed their numbers."""
        need_two_places(one, two, self._size)
        numbers = {one: two, two: one}
        moved = [road_of(numbers.get(low, low), numbers.get(high, high), hue) for low, high, hue in self._roads]
        return Net(self._size, tuple(sorted(moved)))

    def __len__(self):
        return len(self._roads)

    def __bool__(self):
        # Without this a net without roads would be false, as its len is 0.
        return True

    def __str__(self):
        words = [f"{low}-{high}{hue}" for low, high, hue in self._roads]
        return " ".join([f"{self._size}:", *words])

    def __repr__(self):
        return f"Net of {self._size} places"

    def __eq__(self, other):
        return isinstance(other, Net) and self._size == other._size and self._roads == other._roads


def need_net(value):
    """Raises NotANet for what is no net."""
    if not isinstance(value, Net):
        raise NotANet(value)


def is_road(value, size):
    """Whether a value is a road of the nets of this size."""
    if not isinstance(value, tuple) or len(value) != 3:
        return False
    low, high, hue = value
    return is_place(low, size) and is_place(high, size) and low < high and is_hue(hue)


def first_wrong_road(roads, size):
    """The index of the first element that is no road or stands wrongly, None if there is none."""
    for index, road in enumerate(roads):
        if not is_road(road, size):
            return index
        if index > 0 and road[:2] <= roads[index - 1][:2]:
            return index
    return None


def size_in(word):
    """The number that the first word of a text tells, None if it tells none."""
    if len(word) != 2 or word[0] not in DIGITS or word[1] != ":":
        return None
    return int(word[0])


def road_in(word):
    """The triple that a further word of a text tells, None if it tells none."""
    if len(word) != 4 or word[0] not in DIGITS or word[1] != "-" or word[2] not in DIGITS:
        return None
    return (int(word[0]), int(word[2]), word[3])


def pair_of(one, two):
    """Both places, the lesser one first."""
    return (min(one, two), max(one, two))


def road_of(one, two, hue):
    """The road that joins both places, told in either order."""
    low, high = pair_of(one, two)
    return (low, high, hue)


def roads_without(net, pairs):
    """The list of the roads of a net but for those between these pairs of places."""
    return [road for road in net.roads if road[:2] not in pairs]


def alike(net, other):
    """Whether an exchange of places and of hues brings the roads of one net over to those of the other one."""
    need_net(net)
    need_net(other)
    for each in (net, other):
        need_at_most(each.size, MOST_EXCHANGED)
    # No road has no hue, on both sides: so a missing road goes over to a missing one.
    return net.size == other.size and can_complete(net, other, [], {None: None})


def can_complete(net, other, images, hues):
    """Whether an exchange of the first places for `images`, and of these hues, can be completed."""
    if len(images) == net.size:
        return True
    for image in range(other.size):
        if image not in images:
            longer = [*images, image]
            more = exchange_with_last(net, other, longer, hues)
            if more is not None and can_complete(net, other, longer, more):
                return True
    return False


def exchange_with_last(net, other, images, hues):
    """The exchange of hues with what the roads of the last place add to it, None if that contradicts it."""
    exchange = dict(hues)
    last = len(images) - 1
    for place in range(last):
        hue = net.hue(place, last)
        image = other.hue(images[place], images[last])
        if hue not in exchange:
            if image in list(exchange.values()):
                return None
            exchange[hue] = image
        elif exchange[hue] != image:
            return None
    return exchange
