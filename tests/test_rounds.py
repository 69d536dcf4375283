"""Promise 3 of rounds: just all rounds, and what follows from them."""

import itertools
import random
import unittest

from hueturns.nets import Net
from hueturns.rounds import (count_rounds, first_round, has_round, in_all, is_round, key_places, packed, rounds,
                             rounds_at, rounds_by)
from tests.plain_search import all_nets, all_rounds, first_ring
from tests.samples import DULL, EMPTY_NINE, FULL, KITE, LONE, PATH, SQUARE, THREE, every_pair, some_net, some_nets

SMALL = [*all_nets(1, "a"), *all_nets(2, "abc"), *all_nets(3, "abc"), *all_nets(4, "ab")]
TWO_THREES = Net.read("8: 0-1a 0-4b 1-4c 2-3a 2-7b 3-7c")
NINE_AROUND = Net.read("9: 0-1a 0-8c 1-2b 2-3a 3-4b 4-5a 5-6b 6-7a 7-8b")


def whole(size, hue):
    """The net in which all places are joined, with the hues that a function of two places tells."""
    return Net(size, tuple((low, high, hue(low, high)) for low, high in every_pair(size)))


def turned(ring):
    """The round told from each of its places, either way round."""
    told = [ring[at:] + ring[:at] for at in range(len(ring))]
    return told + [each[::-1] for each in told]


def along(ring):
    """The pairs of places whose roads a round goes along."""
    return {tuple(sorted(pair)) for pair in zip(ring, ring[1:] + ring[:1])}


def are_apart(rings):
    """Whether no two rounds have a place in common."""
    return all(not set(one) & set(two) for one, two in itertools.combinations(rings, 2))


class TestAll(unittest.TestCase):
    def check(self, net):
        found = all_rounds(net)
        with self.subTest(net=str(net)):
            self.assertEqual(rounds(net), found)
            self.assertEqual(rounds(net=net), found)
            self.assertEqual(first_round(net), found[0] if found else None)
            self.assertEqual(first_round(net=net), first_round(net))
            self.assertIs(has_round(net), bool(found))
            self.check_counts(net, found)
            self.check_common(net, found)
            self.check_parts(net, found)
            self.check_packed(net, found)

    def check_counts(self, net, found):
        lengths = [len(ring) for ring in found]
        counts = tuple((many, lengths.count(many)) for many in sorted(set(lengths)))
        self.assertEqual([count_rounds(net), count_rounds(net=net)], [counts, counts])

    def check_common(self, net, found):
        pairs = tuple(pair for pair in every_pair(net.size) if all(pair in along(ring) for ring in found))
        places = tuple(place for place in range(net.size) if all(place in ring for ring in found))
        self.assertEqual([in_all(net), in_all(net=net)], [pairs if found else None] * 2)
        self.assertEqual([key_places(net), key_places(net=net)], [places if found else None] * 2)

    def check_parts(self, net, found):
        for place in range(net.size):
            with_it = tuple(ring for ring in found if place in ring)
            self.assertEqual([rounds_at(net, place), rounds_at(place=place, net=net)], [with_it, with_it])
        for low, high, _ in net.roads:
            by_it = tuple(ring for ring in found if (low, high) in along(ring))
            self.assertEqual([rounds_by(net, low, high), rounds_by(net, high, low)], [by_it, by_it])
            self.assertEqual(rounds_by(two=low, one=high, net=net), by_it)

    def check_packed(self, net, found):
        pack = packed(net)
        self.assertIs(pack.__class__, tuple)
        self.assertEqual(list(pack), [ring for ring in found if ring in pack])
        self.assertTrue(are_apart(pack))
        # No more than two rounds fit into eight places.
        best = 0
        if found:
            best = 2 if any(are_apart(pair) for pair in itertools.combinations(found, 2)) else 1
        self.assertEqual(len(pack), best)
        self.assertEqual(packed(net=net), pack)

    def test_all_small_nets(self):
        for net in SMALL:
            self.check(net)

    def test_up_to_seven_places(self):
        source = random.Random(31)
        for size, shares in ((5, (0.3, 0.5, 0.7, 1)), (6, (0.3, 0.4, 0.5, 0.7, 1)), (7, (0.3, 0.4, 0.5))):
            for share in shares:
                for hues in ("ab", "abc", "abcdef"):
                    for _ in range(2):
                        self.check(some_net(source, size, hues, share))

    def test_eight_places(self):
        source = random.Random(32)
        for share, hues in ((0.3, "ab"), (0.3, "abc"), (0.4, "abcdef"), (0.6, "ab"), (1, "ab")):
            self.check(some_net(source, 8, hues, share))
        self.check(TWO_THREES)
        self.check(Net(8, ()))
        self.check(Net(8, NINE_AROUND.roads[2:8]))

    def test_all_rounds_there_can_be(self):
        # With the sums of two places as hues, neighbouring roads have different ones but from a place to the sixth.
        net = whole(6, lambda low, high: "abcdef"[(low + high) % 6])
        self.assertEqual(count_rounds(net), ((3, 20), (4, 45), (5, 72), (6, 60)))
        self.check(net)

    def test_form(self):
        self.assertEqual(repr(rounds(FULL)[:4]), "((0, 1, 2), (0, 1, 3), (0, 2, 3), (1, 2, 3))")
        self.assertEqual(rounds(FULL)[4:], ((0, 1, 2, 3), (0, 1, 3, 2), (0, 2, 1, 3)))


class TestEdges(unittest.TestCase):
    def test_one_place_and_no_roads(self):
        for net in (LONE, Net(2, ()), Net.read("2: 0-1a"), Net(8, ()), PATH, DULL):
            with self.subTest(net=str(net)):
                self.assertEqual([has_round(net), first_round(net), rounds(net), count_rounds(net), in_all(net),
                                  key_places(net), rounds_at(net, 0), packed(net)],
                                 [False, None, (), (), None, None, (), ()])

    def test_nothing_in_common(self):
        self.assertEqual([in_all(TWO_THREES), key_places(TWO_THREES)], [(), ()])
        self.assertEqual(packed(TWO_THREES), ((0, 1, 4), (2, 3, 7)))

    def test_ascending_pairs(self):
        net = Net.read("5: 0-2a 0-4b 1-3b 1-4a 2-3c")
        self.assertEqual(rounds(net), ((0, 2, 3, 1, 4),))
        self.assertEqual(in_all(net), ((0, 2), (0, 4), (1, 3), (1, 4), (2, 3)))
        self.assertEqual(key_places(net), (0, 1, 2, 3, 4))
        self.assertEqual(rounds_by(net, 4, 0), ((0, 2, 3, 1, 4),))

    def test_nine_places(self):
        self.assertEqual([has_round(EMPTY_NINE), first_round(EMPTY_NINE)], [False, None])
        self.assertEqual([has_round(NINE_AROUND), first_round(NINE_AROUND)], [True, tuple(range(9))])
        self.assertIs(is_round(NINE_AROUND, (4, 3, 2, 1, 0, 8, 7, 6, 5)), True)
        self.assertIs(is_round(NINE_AROUND.painted(0, 8, "a"), tuple(range(9))), False)
        self.assertIsNone(first_round(NINE_AROUND.painted(0, 8, "a")))
        self.assertIsNone(first_round(NINE_AROUND.painted(0, 8, "b")))
        self.assertEqual(first_round(Net.read("9: 6-7a 6-8b 7-8c")), (6, 7, 8))
        self.assertEqual(first_round(whole(9, lambda low, high: "abcdef"[(low + high) % 6])), (0, 1, 2))

    def test_first_round_of_nine_places(self):
        source = random.Random(33)
        for share, hues in ((0.2, "ab"), (0.2, "abc"), (0.3, "ab"), (0.4, "ab"), (0.6, "abc"), (0.6, "abcdef")):
            for _ in range(6):
                net = some_net(source, 9, hues, share)
                with self.subTest(net=str(net)):
                    self.assertEqual(first_round(net), first_ring(net))
                    self.assertIs(has_round(net), first_ring(net) is not None)


class TestIsRound(unittest.TestCase):
    def test_begun_anywhere_either_way_round(self):
        for net in (THREE, SQUARE, KITE, FULL, TWO_THREES, *some_nets(34, 40, "abc")):
            if net.size <= 6 or net == TWO_THREES:
                for ring in rounds(net):
                    for told in turned(ring):
                        with self.subTest(net=str(net), told=told):
                            self.assertIs(is_round(net, told), True)
                            self.assertIs(is_round(places=told, net=net), True)

    def test_all_tuples(self):
        source = random.Random(35)
        nets = [THREE, DULL, SQUARE, PATH, FULL, LONE, *[some_net(source, 4, "abc", 0.8) for _ in range(6)]]
        for net in nets:
            found = {told for ring in all_rounds(net) for told in turned(ring)}
            for many in range(6):
                for places in itertools.product(range(net.size), repeat=many):
                    with self.subTest(net=str(net), places=places):
                        self.assertIs(is_round(net, places), places in found)

    def test_all_orders_of_five_places(self):
        source = random.Random(36)
        for net in [KITE, *[some_net(source, 5, hues, 0.9) for hues in ("ab", "abc", "abcdef")]]:
            found = {told for ring in all_rounds(net) for told in turned(ring)}
            for many in range(6):
                for places in itertools.permutations(range(5), many):
                    self.assertIs(is_round(net, places), places in found)

    def test_few_and_repeated_places(self):
        for places in ((), (0,), (0, 1), (0, 1, 0), (0, 0, 0), (0, 1, 2, 3, 0), (0, 1, 2, 3) * 2, (0, 1, 2, 3) * 50):
            with self.subTest(places=places):
                self.assertIs(is_round(SQUARE, places), False)
        self.assertIs(is_round(THREE, (0, 1, 2) * 2), False)

    def test_the_last_and_the_first_road(self):
        # Only at the place that stands first, or second, or last, the hue does not change.
        self.assertEqual([is_round(DULL, told) for told in itertools.permutations(range(3))], [False] * 6)
        self.assertEqual([is_round(DULL.closed(0, 1), told) for told in itertools.permutations(range(3))], [False] * 6)


if __name__ == "__main__":
    unittest.main()
