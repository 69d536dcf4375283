"""Promises 1 to 3 of unknown hues: what is so for all hues, for some or for none, and what is best asked for."""

import itertools
import random
import unittest

from hueturns.nets import Net
from hueturns.unknown import best_pair, chances, hues_against, hues_for, sure_places, verdict
from tests.plain_changes import cores_for, first_best, told_for, with_hues
from tests.plain_search import all_nets, core_of, has_ring
from tests.samples import DULL, EMPTY_NINE, FULL, KITE, LONE, PATH, SQUARE, THREE, every_pair, some_net

DOCUMENTS = (THREE, DULL, SQUARE, KITE, PATH, FULL)
WHOLE_NINE = Net(9, tuple((low, high, "abcdef"[(low + high) % 6]) for low, high in every_pair(9)))


def some_pairs(source, net, most):
    """Some of the pairs of joined places, at most so many."""
    many = min(most, len(net))
    return tuple(sorted(source.sample([road[:2] for road in net.roads], many)))


class TestUnknown(unittest.TestCase):
    def check(self, net, pairs, hues):
        told = told_for(net, pairs, hues)
        having = [text for text in told if told[text]]
        lacking = [text for text in told if not told[text]]
        with self.subTest(net=str(net), pairs=pairs, hues=hues):
            self.assertEqual(chances(net, pairs, hues), (len(having), len(hues) ** len(pairs)))
            self.assertEqual(chances(hues=hues, pairs=pairs, net=net), chances(net, pairs, hues))
            told_verdict = "surely" if not lacking else "perhaps" if having else "never"
            self.assertEqual([verdict(net, pairs, hues), verdict(hues=hues, pairs=pairs, net=net)], [told_verdict] * 2)
            self.check_texts(net, pairs, hues, having, lacking)
            best = first_best(told, pairs, hues)
            self.assertEqual([best_pair(net, pairs, hues), best_pair(hues=hues, pairs=pairs, net=net)], [best, best])
            self.check_core(net, pairs, hues)

    def check_texts(self, net, pairs, hues, having, lacking):
        for function, texts in ((hues_for, having), (hues_against, lacking)):
            found = function(net, pairs, hues)
            self.assertEqual(function(hues=hues, pairs=pairs, net=net), found)
            if texts:
                self.assertIs(found.__class__, str)
                self.assertIn(found, texts)
            else:
                self.assertIsNone(found)

    def check_core(self, net, pairs, hues):
        cores = cores_for(net, pairs, hues)
        sure = tuple(place for place in range(net.size) if all(place in core for core in cores))
        self.assertEqual([sure_places(net, pairs, hues), sure_places(hues=hues, pairs=pairs, net=net)], [sure, sure])

    def test_all_small_nets(self):
        for net in (*all_nets(1, "a"), *all_nets(2, "ab"), *all_nets(3, "abc")):
            for many in range(len(net) + 1):
                for roads in itertools.combinations(net.roads, many):
                    for hues in ("a", "c", "ab", "bc", "abc", "abcf"):
                        self.check(net, tuple(road[:2] for road in roads), hues)

    def test_nets_of_four_places(self):
        source = random.Random(81)
        for net in all_nets(4, "ab")[::3]:
            for most, hues in ((0, "a"), (1, "abc"), (2, "ab"), (3, "ab")):
                self.check(net, some_pairs(source, net, most), hues)

    def test_documents_nets(self):
        source = random.Random(82)
        for net in DOCUMENTS:
            for most, hues in ((1, "f"), (1, "abcd"), (2, "ac"), (3, "abe"), (5, "ab")):
                self.check(net, some_pairs(source, net, most), hues)

    def test_up_to_seven_places(self):
        source = random.Random(83)
        for size in (5, 6, 7):
            for share in (0.3, 0.5):
                for colours in ("ab", "abc"):
                    net = some_net(source, size, colours, share)
                    for most, hues in ((2, "abcd"), (3, "abc"), (5, "ab")):
                        self.check(net, some_pairs(source, net, most), hues)

    def test_five_pairs_and_four_hues(self):
        source = random.Random(84)
        self.check(some_net(source, 5, "ab", 0.8), ((0, 1), (0, 2), (1, 3), (2, 3), (3, 4)), "abcd")

    def test_eight_and_nine_places(self):
        source = random.Random(85)
        for size in (8, 9):
            for _ in range(3):
                net = some_net(source, size, "ab", 0.25)
                self.check(net, some_pairs(source, net, 3), "abc")
        pairs = every_pair(9)[:5]
        self.assertEqual([chances(WHOLE_NINE, tuple(pairs), "abcd"), verdict(WHOLE_NINE, tuple(pairs), "abcd")],
                         [(1024, 1024), "surely"])
        self.assertEqual(sure_places(WHOLE_NINE, tuple(pairs), "abcd"), tuple(range(9)))


class TestWhatIsSo(unittest.TestCase):
    def test_without_pairs(self):
        for net in (*DOCUMENTS, LONE, EMPTY_NINE, *all_nets(4, "ab")[::11]):
            for hues in ("a", "bdf", "abcd"):
                ring = has_ring(net)
                with self.subTest(net=str(net), hues=hues):
                    self.assertEqual(chances(net, (), hues), (int(ring), 1))
                    self.assertEqual(verdict(net, (), hues), "surely" if ring else "never")
                    self.assertIsNone(best_pair(net, (), hues))
                    self.assertEqual(hues_for(net, (), hues), "" if ring else None)
                    self.assertEqual(hues_against(net, (), hues), None if ring else "")
                    self.assertEqual(sure_places(net, (), hues), core_of(net))

    def test_the_hue_that_a_road_has_does_not_matter(self):
        pairs = ((0, 1), (1, 2))
        for hues in itertools.product("abcdef", repeat=2):
            net = with_hues(THREE, pairs, hues)
            self.assertEqual([chances(net, pairs, "ab"), best_pair(net, pairs, "ab"), sure_places(net, pairs, "ab")],
                             [chances(THREE, pairs, "ab"), (0, 1), ()])

    def test_one_hue(self):
        self.assertEqual([chances(SQUARE, ((0, 1),), "b"), chances(SQUARE, ((0, 1),), "a")], [(0, 1), (1, 1)])
        self.assertEqual([hues_for(SQUARE, ((0, 1),), "c"), hues_against(SQUARE, ((0, 1),), "b")], ["c", "b"])

    def test_surely_though_each_round_may_be_spoiled(self):
        # The road between 0 and 1 has one hue or another one: for each of them another way back closes a round.
        net = Net.read("4: 0-1a 0-2a 0-3b 1-2c 1-3c")
        pairs = ((0, 1),)
        self.assertEqual([verdict(net, pairs, "ab"), verdict(net, pairs, "abc")], ["surely", "perhaps"])
        net = Net.read("4: 0-1a 0-2a 0-3b 1-2b 1-3a")
        self.assertEqual([verdict(net, pairs, "ab"), hues_against(net, pairs, "ab")], ["surely", None])

    def test_kinds(self):
        self.assertEqual(repr(chances(DULL, ((0, 1),), "abc")), "(1, 3)")
        self.assertEqual(repr(chances(PATH, ((0, 1),), "abc")), "(0, 3)")
        self.assertEqual(repr(chances(THREE, (), "a")), "(1, 1)")
        self.assertEqual([number.__class__ for number in chances(THREE, (), "a")], [int, int])
        self.assertEqual(best_pair(DULL, ((0, 1), (0, 2)), "abc").__class__, tuple)


class TestBestPair(unittest.TestCase):
    def test_a_later_one(self):
        # Only the hue of the road between 1 and 2 decides; that of the road between 0 and 3 is in no round.
        net = Net.read("4: 0-1a 0-2c 0-3a 1-2b")
        self.assertEqual(best_pair(net, ((0, 3), (1, 2)), "ab"), (1, 2))
        self.assertEqual(best_pair(net, ((0, 3), (1, 2)), "a"), (0, 3))

    def test_the_first_one_of_equal_ones(self):
        self.assertEqual(best_pair(PATH, ((0, 1), (1, 2), (2, 3)), "abc"), (0, 1))
        self.assertEqual(best_pair(THREE, ((0, 2), (1, 2)), "abc"), (0, 2))


if __name__ == "__main__":
    unittest.main()
