"""Promise 5 of ways: just all ways, the first one, how far places are, and which ones are apart."""

import itertools
import random
import unittest

from hueturns.nets import Net
from hueturns.ways import apart, far, first_way, ways
from tests.plain_search import all_nets, all_ways
from tests.samples import DULL, EMPTY_NINE, FULL, KITE, LONE, PATH, SQUARE, THREE, every_pair, some_net

SMALL = [*all_nets(2, "abc"), *all_nets(3, "abc"), *all_nets(4, "ab")]
NINE_ALONG = Net(9, tuple((place, place + 1, "abcdef"[place % 6]) for place in range(8)))


def ends(net, way):
    """The hues of the first and the last road of a way."""
    return (net.hue(way[0], way[1]), net.hue(way[-2], way[-1]))


def fits(net, way, first, last):
    """Whether a way has these hues at its ends, None standing for any."""
    return all(asked in (None, hue) for asked, hue in zip((first, last), ends(net, way)))


class TestWays(unittest.TestCase):
    def check(self, net, hues):
        for start, goal in itertools.permutations(range(net.size), 2):
            found = all_ways(net, start, goal)
            with self.subTest(net=str(net), start=start, goal=goal):
                self.assertEqual([ways(net, start, goal), ways(goal=goal, start=start, net=net)], [found, found])
                for first, last in itertools.product((None, *hues), repeat=2):
                    some = tuple(way for way in found if fits(net, way, first, last))
                    self.check_ends(net, start, goal, first, last, some)
                self.check_distances(net, start, goal, found)

    def check_ends(self, net, start, goal, first, last, some):
        self.assertEqual(ways(net, start, goal, first, last), some)
        self.assertEqual(first_way(net, start, goal, last=last, first=first), some[0] if some else None)

    def check_distances(self, net, start, goal, found):
        self.assertEqual(first_way(net, start, goal), found[0] if found else None)
        self.assertEqual(far(net, start)[goal], len(found[0]) - 1 if found else None)
        self.assertEqual((min(start, goal), max(start, goal)) in apart(net), not found)

    def test_all_small_nets(self):
        for net in SMALL:
            self.check(net, "abc" if net.size < 4 else "ab")

    def test_documents_nets(self):
        for net in (DULL, THREE, SQUARE, KITE, PATH, FULL):
            self.check(net, "abcdef")

    def test_up_to_seven_places(self):
        source = random.Random(41)
        for size, shares in ((5, (0.4, 0.7, 1)), (6, (0.3, 0.5, 0.8)), (7, (0.3, 0.5))):
            for share in shares:
                for hues in ("ab", "abc", "abcdef"):
                    self.check(some_net(source, size, hues, share), hues[:3])

    def test_eight_places(self):
        source = random.Random(42)
        for share, hues in ((0.3, "ab"), (0.6, "abc"), (1, "abcdef")):
            net = some_net(source, 8, hues, share)
            for start, goal in ((0, 7), (5, 2)):
                found = all_ways(net, start, goal)
                self.assertEqual(ways(net, start, goal), found)
                self.assertEqual(ways(net, start, goal, "a"), tuple(way for way in found if fits(net, way, "a", None)))
                self.check_distances(net, start, goal, found)

    def test_form(self):
        self.assertEqual(repr(ways(FULL, 0, 1)), "((0, 1), (0, 2, 1), (0, 3, 1), (0, 2, 3, 1), (0, 3, 2, 1))")


class TestEnds(unittest.TestCase):
    def test_one_road_is_the_first_and_the_last(self):
        self.assertEqual(ways(SQUARE, 0, 1, "a", "a"), ((0, 1),))
        self.assertEqual(ways(SQUARE, 0, 1, "b", "b"), ((0, 3, 2, 1),))
        self.assertEqual([ways(SQUARE, 0, 1, "a", "b"), first_way(SQUARE, 0, 1, "a", "b")], [(), None])
        self.assertEqual(first_way(SQUARE, 0, 1, last="b"), (0, 3, 2, 1))

    def test_by_position_and_by_name(self):
        for first, last in itertools.product((None, "a", "b"), repeat=2):
            named = {"net": FULL, "start": 3, "goal": 1, "first": first, "last": last}
            some = tuple(way for way in all_ways(FULL, 3, 1) if fits(FULL, way, first, last))
            for call, found in ((ways, some), (first_way, some[0] if some else None)):
                self.assertEqual(call(*named.values()), found)
                self.assertEqual(call(**dict(reversed(named.items()))), found)

    def test_hues_that_no_road_has(self):
        for hue in "cdef":
            self.assertEqual([ways(SQUARE, 0, 1, hue), ways(SQUARE, 0, 1, None, hue)], [(), ()])
            self.assertEqual([first_way(SQUARE, 0, 1, hue), first_way(SQUARE, 0, 1, last=hue)], [None, None])

    def test_none_stands_for_any(self):
        self.assertEqual(ways(SQUARE, 0, 2, None, None), ways(SQUARE, 0, 2))
        self.assertEqual(first_way(SQUARE, 0, 2, None, None), first_way(SQUARE, 0, 2))


class TestEdges(unittest.TestCase):
    def test_one_place(self):
        self.assertEqual([far(LONE, 0), apart(LONE), far(start=0, net=LONE), apart(net=LONE)], [(0,), (), (0,), ()])

    def test_no_roads(self):
        self.assertEqual([far(EMPTY_NINE, 8), first_way(EMPTY_NINE, 0, 8)], [(None,) * 8 + (0,), None])
        self.assertEqual(apart(EMPTY_NINE), tuple(every_pair(9)))
        self.assertEqual([ways(Net(8, ()), 7, 0), ways(Net(2, ()), 0, 1)], [(), ()])

    def test_nine_places(self):
        self.assertEqual(first_way(NINE_ALONG, 0, 8), tuple(range(9)))
        self.assertEqual(first_way(NINE_ALONG, 8, 0), tuple(range(8, -1, -1)))
        self.assertEqual([first_way(NINE_ALONG, 0, 8, "a", "b"), first_way(NINE_ALONG, 0, 8, "b")],
                         [tuple(range(9)), None])
        self.assertEqual([far(NINE_ALONG, 0), far(NINE_ALONG, 8)], [tuple(range(9)), tuple(range(8, -1, -1))])
        self.assertEqual(apart(NINE_ALONG), ())
        cut = NINE_ALONG.painted(4, 5, "d")
        self.assertEqual([far(cut, 0), first_way(cut, 0, 5)], [(0, 1, 2, 3, 4, None, None, None, None), None])
        self.assertEqual(apart(cut), tuple((low, high) for low in range(4) for high in range(5, 9)))

    def test_first_way_of_nine_places(self):
        source = random.Random(43)
        for share, hues in ((0.2, "ab"), (0.3, "abc"), (0.3, "ab"), (0.6, "ab"), (1, "abcdef")):
            net = some_net(source, 9, hues, share)
            for start, goal in ((0, 8), (4, 1)):
                found = all_ways(net, start, goal)
                with self.subTest(net=str(net), start=start, goal=goal):
                    for first, last in ((None, None), ("a", None), (None, "a"), ("b", "a")):
                        some = [way for way in found if fits(net, way, first, last)]
                        self.assertEqual(first_way(net, start, goal, first, last), some[0] if some else None)
                    self.assertEqual(far(net, start)[goal], len(found[0]) - 1 if found else None)

    def test_the_first_one_is_not_the_first_tuple(self):
        # Few places go first: 0-1-2-3 is a lesser tuple than 0-3.
        net = Net.read("4: 0-1a 0-3c 1-2b 2-3a")
        self.assertEqual([ways(net, 0, 3), first_way(net, 0, 3)], [((0, 3), (0, 1, 2, 3)), (0, 3)])


if __name__ == "__main__":
    unittest.main()
