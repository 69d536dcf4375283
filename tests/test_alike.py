"""Promise 5 of nets: alike is true exactly if some exchange brings all roads over."""

import itertools
import random
import unittest

from hueturns.nets import Net, alike
from tests.samples import DULL, FULL, KITE, LONE, SQUARE, THREE, every_pair, some_net

HUES = "abcdef"


def exchanged(net, places, hues):
    """The net after an exchange of its places and of its hues."""
    return Net(net.size, tuple(sorted((*sorted((places[low], places[high])), hues[hue])
                                      for low, high, hue in net.roads)))


def alike_by_trying(net, other, hues):
    """Whether they are alike, found by trying all exchanges of the places and of some hues."""
    return net.size == other.size and any(
        exchanged(net, places, dict(zip(hues, images))) == other
        for places in itertools.permutations(range(net.size)) for images in itertools.permutations(hues))


class TestAlike(unittest.TestCase):
    def both_ways(self, net, other, expected):
        with self.subTest(net=str(net), other=str(other)):
            self.assertIs(alike(net, other), expected)
            self.assertIs(alike(other, net), expected)
            self.assertIs(alike(other=other, net=net), expected)

    def test_examples(self):
        self.both_ways(DULL, Net.read("3: 0-1d 0-2f 1-2d"), True)
        self.both_ways(DULL, THREE, False)
        for net in (LONE, DULL, THREE, SQUARE, KITE, FULL):
            self.both_ways(net, net, True)

    def test_the_first_and_the_last_hue(self):
        self.both_ways(Net.read("2: 0-1a"), Net.read("2: 0-1f"), True)
        self.both_ways(Net.read("3: 0-1a 0-2f"), Net.read("3: 0-1f 0-2a"), True)
        self.both_ways(Net.read("3: 0-1a 0-2f"), Net.read("3: 0-1a 0-2a"), False)
        self.both_ways(Net.read("3: 0-1a 0-2f"), Net.read("3: 0-1f 0-2f"), False)

    def test_all_six_hues(self):
        one = Net.read("7: 0-1a 1-2b 2-3c 3-4d 4-5e 5-6f")
        self.both_ways(one, Net.read("7: 0-1f 1-2e 2-3d 3-4c 4-5b 5-6a"), True)
        self.both_ways(one, Net.read("7: 0-1b 1-2c 2-3d 3-4e 4-5f 5-6a"), True)
        self.both_ways(one, Net.read("7: 0-1a 1-2b 2-3c 3-4d 4-5e 5-6a"), False)

    def test_no_roads(self):
        for one in range(1, 8):
            for two in range(1, 8):
                self.both_ways(Net(one, ()), Net(two, ()), one == two)

    def test_not_one_road_more_or_less(self):
        self.both_ways(Net.read("3: 0-1a"), Net.read("3: 0-1a 0-2a"), False)
        self.both_ways(Net.read("3:"), Net.read("3: 0-1a"), False)
        self.both_ways(SQUARE, SQUARE.painted(0, 2, "c"), False)
        self.both_ways(KITE, KITE.closed(3, 4), False)
        self.both_ways(SQUARE, Net(5, SQUARE.roads), False)

    def test_as_many_roads_at_each_place(self):
        six = Net.read("6: 0-1a 0-5a 1-2a 2-3a 3-4a 4-5a")
        self.both_ways(six, Net.read("6: 0-1a 0-2a 1-2a 3-4a 3-5a 4-5a"), False)
        self.both_ways(six, Net.read("6: 0-2b 0-3b 1-3b 1-4b 2-5b 4-5b"), True)

    def test_as_many_roads_of_each_hue(self):
        self.both_ways(Net.read("4: 0-1a 0-3a 1-2b 2-3b"), SQUARE, False)
        self.both_ways(Net.read("4: 0-1a 1-2b 2-3a"), Net.read("4: 0-1a 1-2a 2-3b"), False)
        self.both_ways(Net.read("4: 0-1a 1-2b 2-3a"), Net.read("4: 0-2c 0-3f 1-3c"), True)

    def test_seven_places_exchanged(self):
        source = random.Random(9)
        for share in (0.2, 0.4, 0.6, 0.8, 1):
            net = some_net(source, 7, "abc", share)
            places = source.sample(range(7), 7)
            hues = dict(zip(HUES, source.sample(HUES, 6)))
            self.both_ways(net, exchanged(net, places, hues), True)

    def test_seven_places_all_joined(self):
        one_hue = Net(7, tuple((*pair, "a") for pair in every_pair(7)))
        self.both_ways(one_hue, Net(7, tuple((*pair, "f") for pair in every_pair(7))), True)
        self.both_ways(one_hue.painted(0, 1, "b"), one_hue.painted(5, 6, "c"), True)
        self.both_ways(one_hue.painted(0, 1, "b"), one_hue, False)
        self.both_ways(one_hue.painted(0, 1, "b").painted(2, 3, "b"),
                       one_hue.painted(0, 1, "b").painted(1, 2, "b"), False)

    def test_all_small_nets_in_two_hues(self):
        tables = itertools.product((None, "a", "b"), repeat=3)
        nets = [Net(3, tuple((*pair, hue) for pair, hue in zip(every_pair(3), table) if hue)) for table in tables]
        for net, other in itertools.product(nets, nets):
            self.both_ways(net, other, alike_by_trying(net, other, "ab"))

    def test_as_found_by_trying(self):
        source = random.Random(10)
        for size in (2, 3, 4, 4, 4, 4):
            for share in (0.4, 0.7, 1):
                nets = [some_net(source, size, "abc", share) for _ in range(6)]
                for net, other in itertools.combinations_with_replacement(nets, 2):
                    self.both_ways(net, other, alike_by_trying(net, other, "abc"))


if __name__ == "__main__":
    unittest.main()
