"""Promises 4 to 6 of changes: the fewest roads to be closed or painted, and those that no round needs."""

import random
import unittest

from hueturns.changing import least_closings, least_paintings, least_turnings, spare_roads
from hueturns.nets import Net
from tests.plain_changes import fewest_closings, fewest_paintings, spare_pairs
from tests.plain_search import all_nets, has_ring
from tests.samples import DULL, FULL, KITE, LONE, PATH, SQUARE, THREE, every_pair

DOCUMENTS = (THREE, DULL, SQUARE, KITE, PATH, FULL)
# Rounds of three places, no two of which have a road in common.
FOUR_THREES = Net.read("7: 0-1a 0-2b 0-3a 0-4b 0-5a 0-6b 1-2c 1-3a 1-5b 3-4c 3-5c 5-6c")
THREE_THREES = Net.read("7: 0-1a 0-2b 0-3d 0-4e 0-5f 0-6c 1-2c 3-4f 5-6a")
SEVEN_AROUND = Net.read("7: 0-1a 0-6a 1-2a 2-3a 3-4a 4-5a 5-6a")


def sparse_net(source, size, roads, hues):
    """A net with so many roads that a random source chooses."""
    pairs = sorted(source.sample(every_pair(size), roads))
    return Net(size, tuple((*pair, source.choice(hues)) for pair in pairs))


def some_sparse(seed, rows):
    """Nets with numbers of places and roads and with hues as the rows tell."""
    source = random.Random(seed)
    return [sparse_net(source, *row) for row in rows]


class TestClosings(unittest.TestCase):
    def check(self, net):
        with self.subTest(net=str(net)):
            told = fewest_closings(net)
            self.assertEqual([least_closings(net), least_closings(net=net)], [told, told])

    def test_all_small_nets(self):
        for net in (*all_nets(1, "a"), *all_nets(2, "ab"), *all_nets(3, "abc"), *all_nets(4, "ab")):
            self.check(net)

    def test_documents_nets(self):
        for net in DOCUMENTS:
            self.check(net)

    def test_up_to_seven_places(self):
        for net in some_sparse(91, [(size, roads, hues) for size, roads in ((5, 8), (5, 10), (6, 9), (7, 10), (7, 12))
                                    for hues in ("ab", "abc", "abcdef")]):
            self.check(net)

    def test_none_already(self):
        for net in (LONE, Net(7, ()), DULL, PATH, SEVEN_AROUND):
            self.assertEqual(least_closings(net), ((),))

    def test_several_roads(self):
        for net, many in ((THREE, 1), (FULL, 3), (THREE_THREES, 3), (FOUR_THREES, 4)):
            self.check(net)
            self.assertEqual(len(least_closings(net)[0]), many)
        self.assertEqual(least_closings(FULL)[0], ((0, 1), (0, 2), (1, 2)))

    def test_ascending(self):
        for net in (FULL, FOUR_THREES, *some_sparse(92, [(6, 10, "abc")] * 5)):
            found = least_closings(net)
            self.assertEqual(found, tuple(sorted(set(tuple(sorted(set(each))) for each in found))))


class TestPaintings(unittest.TestCase):
    def check(self, net, hues):
        with self.subTest(net=str(net), hues=hues):
            told = fewest_paintings(net, hues, False)
            self.assertEqual([least_paintings(net, hues), least_paintings(hues=hues, net=net)], [told, told])
            told = fewest_paintings(net, hues, True)
            self.assertEqual([least_turnings(net, hues), least_turnings(hues=hues, net=net)], [told, told])

    def test_all_small_nets(self):
        for net in (*all_nets(1, "a"), *all_nets(2, "ab"), *all_nets(3, "abc")):
            for hues in ("a", "b", "ab", "ac", "abc", "abcdef", "f"):
                self.check(net, hues)

    def test_all_nets_of_four_places(self):
        for net in all_nets(4, "ab"):
            self.check(net, "ab")

    def test_nets_of_four_places_with_other_hues(self):
        for net in all_nets(4, "ab")[::23]:
            for hues in ("c", "abc"):
                self.check(net, hues)

    def test_documents_nets(self):
        for net in DOCUMENTS:
            for hues in ("a", "ab", "bc", "abc"):
                self.check(net, hues)

    def test_up_to_seven_places(self):
        for net in some_sparse(93, [(size, roads, hues) for size, roads in ((5, 7), (5, 8), (6, 8), (7, 9))
                                    for hues in ("a", "ab", "abc")]):
            for hues in ("ab", "abc"):
                self.check(net, hues)

    def test_twelve_roads(self):
        for net in some_sparse(94, [(7, 12, "ab"), (7, 12, "abc"), (6, 12, "ab")]):
            self.check(net, "ab")

    def test_three_roads(self):
        # Three of seven roads in one hue have to be painted, and with two hues no round of seven places can be made.
        self.check(SEVEN_AROUND, "ab")
        self.assertIsNone(least_turnings(SEVEN_AROUND, "abcdef"))
        six = Net.read("6: 0-1a 0-5a 1-2a 2-3a 3-4a 4-5a")
        self.assertEqual(least_turnings(six, "ab"), (((0, 1, "b"), (2, 3, "b"), (4, 5, "b")),
                                                     ((0, 5, "b"), (1, 2, "b"), (3, 4, "b"))))
        self.check(six, "abc")

    def test_three_roads_are_not_enough(self):
        self.assertIsNone(least_paintings(FOUR_THREES, "abcdef"))
        self.assertIsNone(least_paintings(FOUR_THREES, "abc"))
        self.assertEqual(len(least_paintings(THREE_THREES, "abcdef")[0]), 3)
        self.assertIsNone(least_turnings(PATH, "abcdef"))
        self.assertIsNone(least_turnings(Net(7, ()), "abcdef"))

    def test_a_new_round_instead_of_the_old_one(self):
        # Any other hue of the road between 0 and 1 spoils one round and makes another one.
        net = Net.read("4: 0-1a 0-2a 0-3b 1-2b 1-3a")
        self.check(net, "ab")
        self.check(net, "abc")
        self.assertNotIn(((0, 1, "b"),), least_paintings(net.painted(0, 1, "c"), "ab"))

    def test_so_already(self):
        for net in (*DOCUMENTS, LONE, Net(7, ()), FOUR_THREES):
            ring = has_ring(net)
            for hues in ("a", "f", "abcdef"):
                with self.subTest(net=str(net), hues=hues):
                    self.assertEqual(least_paintings(net, hues) == ((),), not ring)
                    self.assertEqual(least_turnings(net, hues) == ((),), ring)

    def test_ascending_and_other_hues(self):
        for net in (FULL, *some_sparse(95, [(5, 8, "ab")] * 6)):
            for function in (least_paintings, least_turnings):
                found = function(net, "abc") or ()
                self.assertEqual(found, tuple(sorted(set(tuple(sorted(set(each))) for each in found))))
                for low, high, hue in [road for each in found for road in each]:
                    self.assertNotIn(net.hue(low, high), (None, hue))


class TestSpare(unittest.TestCase):
    def check(self, net):
        with self.subTest(net=str(net)):
            told = spare_pairs(net)
            self.assertEqual([spare_roads(net), spare_roads(net=net)], [told, told])

    def test_all_small_nets(self):
        for net in (*all_nets(1, "a"), *all_nets(2, "ab"), *all_nets(3, "abc"), *all_nets(4, "ab")):
            self.check(net)

    def test_up_to_seven_places(self):
        for net in (*DOCUMENTS, FOUR_THREES, SEVEN_AROUND,
                    *some_sparse(96, [(size, roads, hues) for size, roads in ((5, 7), (5, 10), (6, 9), (7, 10), (7, 12))
                                      for hues in ("ab", "abc", "abcdef") for _ in range(3)])):
            self.check(net)

    def test_roads_within_the_core(self):
        # The place 1 lies in the core, but no round goes by it.
        self.assertEqual(spare_roads(Net.read("4: 0-1b 0-2c 0-3b 1-2c 2-3a")), ((0, 1), (1, 2)))
        self.assertEqual(spare_roads(Net(7, ())), ())


if __name__ == "__main__":
    unittest.main()
