"""Promises 1, 2 and 4 of cores and rounds: pieces and hues, what is taken off, and that it decides about rounds."""

import random
import unittest

from hueturns.cores import core, core_pieces, hues_to, is_plain, order_of
from hueturns.nets import Net
from hueturns.rounds import first_round, has_round, rounds
from tests.plain_search import all_nets, all_rounds, first_ring, hues_of, is_plain_in, pieces_of
from tests.samples import DULL, EMPTY_NINE, FULL, KITE, LONE, PATH, SQUARE, THREE, some_net, some_nets

SMALL = [*all_nets(1, "a"), *all_nets(2, "abc"), *all_nets(3, "abc"), *all_nets(4, "ab")]

# The place 3 lies between two rounds and is plain.
TWO_PIECES = Net.read("7: 0-1a 0-2b 1-2c 2-3a 3-4b 4-5a 4-6b 5-6c")

# The place 1 is not plain, but on no round.
ASIDE = Net.read("4: 0-1b 0-2c 0-3b 1-2c 2-3a")


def all_sizes(seed):
    """Nets of all sizes, in few hues and in many ones."""
    return [*some_nets(seed, 60, "ab"), *some_nets(seed + 1, 60, "abc"), *some_nets(seed + 2, 60)]


class TestPlain(unittest.TestCase):
    def check(self, net):
        hues = hues_of(net)
        for place in range(net.size):
            with self.subTest(net=str(net), place=place):
                others = [other for other in range(net.size) if other != place]
                told = tuple((piece, "".join(sorted({hues[place, other] for other in piece if (place, other) in hues})))
                             for piece in pieces_of(net, others))
                self.assertEqual(hues_to(net, place), told)
                self.assertEqual(hues_to(place=place, net=net), told)
                self.assertIs(is_plain(net, place), all(len(found) <= 1 for _, found in told))
                self.assertIs(is_plain(place=place, net=net), is_plain_in(net, place, range(net.size)))

    def test_all_small_nets(self):
        for net in SMALL:
            self.check(net)

    def test_all_sizes(self):
        for net in all_sizes(20):
            self.check(net)

    def test_form(self):
        told = hues_to(KITE, 3)
        self.assertEqual(repr(told), "(((0, 1, 2), 'ab'), ((4,), 'a'))")

    def test_pieces_without_roads_to_them(self):
        self.assertEqual(hues_to(KITE, 0), (((1, 2, 3, 4), "ab"),))
        self.assertEqual(hues_to(Net.read("4: 0-1a 2-3b"), 0), (((1,), "a"), ((2, 3), "")))
        self.assertEqual(hues_to(Net(3, ()), 1), (((0,), ""), ((2,), "")))
        self.assertIs(is_plain(Net(3, ()), 1), True)

    def test_each_hue_once_and_ascending(self):
        net = Net.read("8: 0-1f 0-2e 0-3d 0-4c 0-5b 0-6a 0-7a 1-2a 2-3a 3-4a 4-5a 5-6a 6-7a")
        self.assertEqual(hues_to(net, 0), (((1, 2, 3, 4, 5, 6, 7), "abcdef"),))
        self.assertIs(is_plain(net, 0), False)
        self.assertIs(is_plain(net.closed(2, 3), 0), False)

    def test_two_hues_to_different_pieces(self):
        self.assertEqual(hues_to(PATH, 2), (((0, 1), "a"), ((3,), "b")))
        self.assertEqual([is_plain(PATH, place) for place in range(4)], [True] * 4)

    def test_one_place_and_no_roads(self):
        self.assertEqual([hues_to(LONE, 0), is_plain(LONE, 0)], [(), True])
        self.assertEqual(hues_to(EMPTY_NINE, 8), tuple(((place,), "") for place in range(8)))
        self.assertIs(is_plain(EMPTY_NINE, 8), True)

    def test_nine_places(self):
        net = Net.read("9: 0-1a 0-8b 1-8c 7-8c")
        self.assertEqual(hues_to(net, 8), (((0, 1), "bc"), ((2,), ""), ((3,), ""), ((4,), ""), ((5,), ""), ((6,), ""),
                                           ((7,), "c")))
        self.assertEqual([place for place in range(9) if not is_plain(net, place)], [0, 1, 8])


class TestTakenOff(unittest.TestCase):
    def check(self, net, source):
        left = list(range(net.size))
        order = order_of(net)
        with self.subTest(net=str(net)):
            for place in order:
                plain = [each for each in left if is_plain_in(net, each, left)]
                self.assertEqual(place, plain[0])
                left.remove(place)
            self.assertEqual([each for each in left if is_plain_in(net, each, left)], [])
            self.assertEqual([core(net), core(net=net), order_of(net=net)], [tuple(left), tuple(left), order])
            self.assertEqual(core_pieces(net), tuple(pieces_of(net, left)))
            self.assertEqual(core_pieces(net=net), core_pieces(net))
            self.assertEqual(self.left_in_some_order(net, source), left)
            self.assertEqual([found.__class__ for found in (order, core(net), core_pieces(net))], [tuple] * 3)

    def left_in_some_order(self, net, source):
        left = list(range(net.size))
        plain = left
        while plain:
            plain = [each for each in left if is_plain_in(net, each, left)]
            if plain:
                left.remove(source.choice(plain))
        return left

    def test_all_small_nets(self):
        source = random.Random(23)
        for net in SMALL:
            self.check(net, source)

    def test_all_sizes(self):
        source = random.Random(24)
        for net in all_sizes(25):
            self.check(net, source)

    def test_one_place_and_no_roads(self):
        self.assertEqual([order_of(LONE), core(LONE), core_pieces(LONE)], [(0,), (), ()])
        self.assertEqual([order_of(EMPTY_NINE), core(EMPTY_NINE), core_pieces(EMPTY_NINE)], [tuple(range(9)), (), ()])

    def test_lesser_places_that_are_plain_later_only(self):
        self.assertEqual(order_of(Net.read("4: 0-1a 0-2b 1-3b 2-3b")), (2, 0, 1, 3))
        self.assertEqual(order_of(Net.read("5: 0-1a 0-2b 1-2b 1-3a 2-3b 3-4a")), (2, 0, 1, 3, 4))
        self.assertEqual(order_of(SQUARE.painted(0, 1, "b")), (0, 1, 2, 3))

    def test_two_pieces(self):
        self.assertEqual([order_of(TWO_PIECES), core(TWO_PIECES)], [(3,), (0, 1, 2, 4, 5, 6)])
        self.assertEqual(core_pieces(TWO_PIECES), ((0, 1, 2), (4, 5, 6)))

    def test_a_place_of_the_core_on_no_round(self):
        self.assertEqual([order_of(ASIDE), core(ASIDE), core_pieces(ASIDE)], [(), (0, 1, 2, 3), ((0, 1, 2, 3),)])
        self.assertEqual(rounds(ASIDE), ((0, 2, 3),))


class TestDecides(unittest.TestCase):
    def check(self, net):
        with self.subTest(net=str(net)):
            found = all_rounds(net)
            left = core(net)
            self.assertIs(has_round(net), bool(found))
            self.assertIs(has_round(net=net), bool(found))
            self.assertIs(left != (), bool(found))
            self.assertEqual([ring for ring in found if not set(ring) <= set(left)], [])
            self.assertEqual(first_round(net), found[0] if found else None)

    def test_all_small_nets(self):
        for net in [*SMALL, *all_nets(4, "abc")]:
            self.check(net)

    def test_up_to_six_places(self):
        source = random.Random(27)
        for size in (5, 5, 5, 6):
            for share in (0.3, 0.4, 0.5, 0.6, 0.8, 1):
                for hues in ("ab", "ab", "abc"):
                    for _ in range(4):
                        self.check(some_net(source, size, hues, share))

    def test_all_sizes(self):
        for net in all_sizes(28):
            with self.subTest(net=str(net)):
                ring = first_ring(net)
                self.assertEqual([has_round(net), core(net) != ()], [ring is not None] * 2)
                self.assertEqual(first_round(net), ring)
                self.assertLessEqual(set(ring or ()), set(core(net)))
        for net in some_nets(29, 40, "ab"):
            if net.size < 9:
                self.assertEqual([ring for ring in rounds(net) if not set(ring) <= set(core(net))], [])

    def test_documents_nets(self):
        self.assertEqual([has_round(net) for net in (THREE, DULL, SQUARE, KITE, PATH, FULL, LONE, EMPTY_NINE)],
                         [True, False, True, True, False, True, False, False])


if __name__ == "__main__":
    unittest.main()
