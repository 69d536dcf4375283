"""Promise 5 of nets: the nets that painted, closed and swapped give, and the pieces of places."""

import itertools
import unittest

from hueturns.nets import Net
from tests.samples import DULL, EMPTY_NINE, KITE, LONE, PATH, THREE, every_pair, some_nets


def table_of(net):
    """The hue of each pair of places that has a road."""
    return {(low, high): hue for low, high, hue in net.roads}


def net_of(size, table):
    """The net with the roads of such a table."""
    return Net(size, tuple((*pair, table[pair]) for pair in sorted(table)))


def in_one_piece(net, places, one, two):
    """Whether one comes from one place to another one within some places, by trying all tuples of them."""
    others = [place for place in places if place not in (one, two)]
    return any(all(net.hue(*step) is not None for step in zip((one, *between), (*between, two)))
               for many in range(len(others) + 1) for between in itertools.permutations(others, many))


class TestPainted(unittest.TestCase):
    def test_examples(self):
        self.assertEqual(str(DULL.painted(2, 0, "c")), "3: 0-1a 0-2c 1-2b")
        self.assertEqual(str(PATH.painted(3, 0, "f")), "4: 0-1a 0-3f 1-2a 2-3b")
        self.assertEqual(str(PATH.painted(one=1, two=0, hue="f")), "4: 0-1f 1-2a 2-3b")
        self.assertEqual(str(EMPTY_NINE.painted(8, 7, "a")), "9: 7-8a")
        self.assertEqual(THREE.painted(0, 1, "a"), THREE)

    def test_just_this_road(self):
        for net in some_nets(5, 27):
            for pair in every_pair(net.size):
                for one, two, hue in (pair + ("a",), pair[::-1] + ("f",)):
                    with self.subTest(net=str(net), one=one, two=two, hue=hue):
                        expected = net_of(net.size, {**table_of(net), pair: hue})
                        self.assertEqual(str(net.painted(one, two, hue)), str(expected))


class TestClosed(unittest.TestCase):
    def test_examples(self):
        self.assertEqual(str(PATH.closed(1, 2)), "4: 0-1a 2-3b")
        self.assertEqual(str(PATH.closed(two=2, one=3)), "4: 0-1a 1-2a")
        self.assertEqual(str(Net.read("2: 0-1f").closed(1, 0)), "2:")

    def test_just_this_road(self):
        for net in some_nets(6, 27):
            for pair in table_of(net):
                rest = {other: hue for other, hue in table_of(net).items() if other != pair}
                for one, two in (pair, pair[::-1]):
                    with self.subTest(net=str(net), one=one, two=two):
                        self.assertEqual(str(net.closed(one, two)), str(net_of(net.size, rest)))


class TestSwapped(unittest.TestCase):
    def test_examples(self):
        self.assertEqual(str(PATH.swapped(0, 3)), "4: 0-2b 1-2a 1-3a")
        self.assertEqual(str(PATH.swapped(two=1, one=2)), "4: 0-2a 1-2a 1-3b")
        self.assertEqual(str(EMPTY_NINE.swapped(0, 8)), "9:")
        self.assertEqual(THREE.swapped(0, 1), Net.read("3: 0-1a 0-2b 1-2c"))

    def test_each_hue_goes_with_its_places(self):
        for net in some_nets(7, 27):
            for one, two in itertools.permutations(range(net.size), 2):
                moved = net.swapped(one, two)
                with self.subTest(net=str(net), one=one, two=two):
                    self.assertEqual((moved.size, len(moved)), (net.size, len(net)))
                    number = {place: place for place in range(net.size)} | {one: two, two: one}
                    for low, high in every_pair(net.size):
                        self.assertEqual(moved.hue(number[low], number[high]), net.hue(low, high))
                    self.assertEqual(moved.swapped(two, one), net)


class TestUnchanged(unittest.TestCase):
    def test_the_net_itself_stays(self):
        net = Net.read("4: 0-1a 1-2a 2-3b")
        roads = net.roads
        for changed in (net.painted(0, 1, "c"), net.painted(0, 3, "c"), net.closed(0, 1), net.swapped(0, 3)):
            self.assertIs(changed.__class__, Net)
            self.assertNotEqual(changed, net)
        net.pieces((0, 1, 3))
        self.assertEqual((str(net), net.roads, net.hue(0, 1), net.hue(0, 3)), (str(PATH), roads, "a", None))


class TestPieces(unittest.TestCase):
    def test_examples(self):
        self.assertEqual(KITE.pieces((0, 2, 4)), ((0,), (2,), (4,)))
        self.assertEqual(KITE.pieces(places=(0, 1, 3, 4)), ((0, 1, 3, 4),))
        self.assertEqual(PATH.pieces((0, 1, 3)), ((0, 1), (3,)))
        self.assertEqual(Net.read("5: 0-4a 1-3b 2-4c").pieces((0, 1, 2, 3, 4)), ((0, 2, 4), (1, 3)))

    def test_edges(self):
        self.assertEqual([PATH.pieces(()), LONE.pieces(()), LONE.pieces((0,))], [(), (), ((0,),)])
        self.assertEqual(EMPTY_NINE.pieces(tuple(range(9))), tuple((place,) for place in range(9)))
        line = Net.read("9: 0-8a 1-7f 1-8b 2-6d 2-7e 3-5b 3-6c 4-5a")
        self.assertEqual(line.pieces(tuple(range(9))), (tuple(range(9)),))
        self.assertEqual(line.pieces((0, 1, 2, 3, 4, 5, 6, 7)), ((0,), (1, 2, 3, 4, 5, 6, 7)))

    def test_all_sets_of_places(self):
        for net in [net for net in some_nets(8, 27) if net.size <= 6]:
            for many in range(net.size + 1):
                for places in itertools.combinations(range(net.size), many):
                    with self.subTest(net=str(net), places=places):
                        expected = {tuple(two for two in places if one == two or in_one_piece(net, places, one, two))
                                    for one in places}
                        self.assertEqual(net.pieces(places), tuple(sorted(expected)))


if __name__ == "__main__":
    unittest.main()
