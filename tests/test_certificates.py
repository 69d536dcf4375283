"""Promise 7 of certificates: claims that are true, with certificates that the checker accepts; and the errors."""

import itertools
import random
import unittest

from hueturns.certificates import certify_core, certify_round, certify_walk, certify_way
from hueturns.checker import accepts
from hueturns.errors import InvalidNumber, InvalidPlace, NotANet, TooGreat
from hueturns.nets import Net
from tests.plain_search import all_nets, all_ways, core_of, has_ring, stands_after
from tests.samples import (DULL, EMPTY_NINE, FULL, KITE, LONE, NO_INTEGERS, NO_NETS, PATH, SQUARE, THREE, check_given,
                           every_pair, raised, some_net)

SMALL = [*all_nets(1, "a"), *all_nets(2, "ab"), *all_nets(3, "abc"), *all_nets(4, "ab")[::9]]
DOCUMENTS = (THREE, DULL, SQUARE, KITE, PATH, FULL)
NO_PLACES = (*NO_INTEGERS, -1, 5, 9, 10 ** 30, -(10 ** 30))
NO_NUMBERS = (*NO_INTEGERS, -1, -(10 ** 30), 10 ** 30 + 1, 10 ** 79)
WHOLE_NINE = Net(9, tuple((low, high, "abcdef"[(low + high) % 6]) for low, high in every_pair(9)))


def others():
    """Nets of all sizes, thin ones and dense ones."""
    source = random.Random(131)
    return [some_net(source, size, hues, share) for size in range(4, 10) for hues in ("ab", "abc")
            for share in (0.2, 0.4, 0.6)]


class TestTrue(unittest.TestCase):
    def check(self, pair, claim):
        self.assertEqual(pair.__class__, tuple)
        self.assertEqual(len(pair), 2)
        told, certificate = pair
        self.assertEqual(told, claim)
        self.assertEqual(certificate.__class__, tuple)
        self.assertIs(accepts(told, certificate), True)

    def check_net(self, net):
        with self.subTest(net=str(net)):
            word = "round" if has_ring(net) else "no round"
            self.check(certify_round(net), (word, str(net)))
            self.check(certify_round(net=net), (word, str(net)))
            self.check(certify_core(net), ("core", str(net), core_of(net)))
            self.check(certify_core(net=net), ("core", str(net), core_of(net)))

    def check_ways(self, net):
        for start, goal in itertools.permutations(range(net.size), 2):
            with self.subTest(net=str(net), start=start, goal=goal):
                word = "way" if all_ways(net, start, goal) else "no way"
                self.check(certify_way(net, start, goal), (word, str(net), start, goal))
                self.check(certify_way(goal=goal, start=start, net=net), (word, str(net), start, goal))

    def check_walks(self, net, numbers):
        for start, many in itertools.product(range(net.size), numbers):
            places = [place for place, _ in stands_after(net, [(start, None)], many)]
            for goal in range(net.size):
                with self.subTest(net=str(net), start=start, goal=goal, many=many):
                    word = "walk" if goal in places else "no walk"
                    if word == "walk" and many > 100:
                        self.assertEqual(raised(self, TooGreat, certify_walk, net, start, goal, many).given, many)
                    else:
                        claim = (word, str(net), start, goal, many)
                        self.check(certify_walk(net, start, goal, many), claim)
                        self.check(certify_walk(many=many, goal=goal, start=start, net=net), claim)

    def test_small_nets(self):
        for net in (*SMALL, *DOCUMENTS):
            self.check_net(net)
            self.check_ways(net)
            self.check_walks(net, (0, 1, 2, 3, 4, 7))

    def test_other_nets(self):
        for net in (*others(), LONE, EMPTY_NINE, WHOLE_NINE):
            self.check_net(net)

    def test_ways_in_other_nets(self):
        for net in others():
            if net.size < 8:
                self.check_ways(net)
        self.assertEqual(certify_way(WHOLE_NINE, 8, 0), (("way", str(WHOLE_NINE), 8, 0), (8, 0)))
        self.assertEqual(certify_way(EMPTY_NINE, 8, 0), (("no way", "9:", 8, 0), ()))

    def test_many_roads(self):
        for net in DOCUMENTS:
            self.check_walks(net, (99, 100, 101, 102, 10 ** 15, 10 ** 30 - 1, 10 ** 30))
        self.check_walks(WHOLE_NINE, (100, 101))

    def test_no_walk_of_many_roads(self):
        self.check(certify_walk(SQUARE, 0, 1, 10 ** 30), ("no walk", str(SQUARE), 0, 1, 10 ** 30))
        self.check(certify_walk(LONE, 0, 0, 101), ("no walk", "1:", 0, 0, 101))
        self.check(certify_walk(LONE, 0, 0, 0), ("walk", "1:", 0, 0, 0))


class TestErrors(unittest.TestCase):
    def test_no_net(self):
        for value in NO_NETS:
            with self.subTest(value=value):
                for call in (certify_round, certify_core):
                    check_given(self, NotANet, value, call, value)
                    check_given(self, NotANet, value, call, net=value)
                check_given(self, NotANet, value, certify_way, value, 0, 0)
                check_given(self, NotANet, value, certify_way, goal=None, start=None, net=value)
                check_given(self, NotANet, value, certify_walk, value, -1, -1, -1)
                check_given(self, NotANet, value, certify_walk, many=None, goal=None, start=None, net=value)

    def test_places(self):
        for place in NO_PLACES:
            with self.subTest(place=place):
                check_given(self, InvalidPlace, place, certify_way, KITE, place, 0)
                check_given(self, InvalidPlace, place, certify_way, KITE, place, None)
                check_given(self, InvalidPlace, place, certify_way, goal=place, start=0, net=KITE)
                check_given(self, InvalidPlace, place, certify_walk, KITE, place, None, None)
                check_given(self, InvalidPlace, place, certify_walk, KITE, 0, place, -1)
                check_given(self, InvalidPlace, place, certify_walk, many=10 ** 31, goal=place, start=0, net=KITE)
        for place in range(5):
            check_given(self, InvalidPlace, place, certify_way, KITE, place, place)
            certify_walk(KITE, place, place, 0)

    def test_numbers(self):
        for many in NO_NUMBERS:
            with self.subTest(many=many):
                check_given(self, InvalidNumber, many, certify_walk, KITE, 0, 1, many)
                check_given(self, InvalidNumber, many, certify_walk, many=many, goal=4, start=4, net=EMPTY_NINE)

    def test_too_great_comes_last(self):
        for many in (104, 10 ** 15, 10 ** 30):
            check_given(self, TooGreat, many, certify_walk, SQUARE, 0, 0, many)
            check_given(self, TooGreat, many, certify_walk, many=many, goal=2, start=2, net=SQUARE)
            check_given(self, InvalidPlace, 4, certify_walk, SQUARE, 0, 4, many)
            # There is none, whatever the number is: then it is not too great.
            self.assertEqual(certify_walk(SQUARE, 0, 3, many)[0][0], "no walk")


if __name__ == "__main__":
    unittest.main()
