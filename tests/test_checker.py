"""Promise 6 of the checker: it accepts just what is a claim with a certificate for it, whatever both are."""

import itertools
import random
import unittest

from hueturns.checker import accepts
from hueturns.nets import Net
from tests.plain_search import all_nets, all_rounds, all_walks, all_ways, core_of, is_plain_in, stands_after
from tests.samples import (DULL, FULL, KITE, LONE, NO_INTEGERS, NO_TUPLES, PATH, SQUARE, THREE, some_net)

ANYTHING = (*NO_INTEGERS, *NO_TUPLES, -1, 9, 10 ** 30, ("round",), ("round", "3:", ()), ((),), ((((),),),), [[[]]],
            {"round": "3:"}, Net, accepts, Exception, Exception("x"))
WORDS = ("round", "no round", "core", "way", "no way", "walk", "no walk")
OTHER_WORDS = ("", "Round", "round ", " round", "no  round", "noround", "cores", "no core", "ways", "walks", "turn",
               "plain", "verdict", b"round", None, 0, True, ("round",), ["round"], {"round"}, object())
# Texts that are no nets, though something like them is.
NO_TEXTS = ("", "3", "3:0-1a", "3: ", "3:  0-1a", " 3: 0-1a", "3: 0-1a ", "3: 0-1a\n", "3:\n", "03: 0-1a", "0:", "10:",
            "3: 1-0a", "3: 0-0a", "3: 0-3a", "3: 0-1g", "3: 0-1A", "3: 0-1", "3: 0-1aa", "3: 0-1a 0-1a", "3: 0-1a 0-1b",
            "3: 0-2a 0-1b", "3: 0-1a, 0-2b", "3: 0-1 a", "3; 0-1a", "3: 0+1a", "3: 00-1a", "Net of 3 places", "-3:",
            b"3: 0-1a", True, None, 3, (3, ()), ("3:",), ["3:"], [], {}, THREE, Net, object())


def turned(rings):
    """Rounds told from each of their places, either way round."""
    told = [ring[at:] + ring[:at] for ring in rings for at in range(len(ring))]
    return {each for ring in told for each in (ring, ring[::-1])}


def orders_off(net, left):
    """All orders in which all places but these can be taken off, one plain place after the other."""
    others = [place for place in range(net.size) if place not in left]
    return {order for order in itertools.permutations(others)
            if all(is_plain_in(net, place, sorted((*order[at:], *left))) for at, place in enumerate(order))}


def all_tuples(size, most):
    """All tuples of so many places at most, and of one that is none."""
    return [places for many in range(most + 1) for places in itertools.product(range(size + 1), repeat=many)]


class TestSmallNets(unittest.TestCase):
    def check(self, claim, right, tuples):
        with self.subTest(claim=claim):
            self.assertEqual([each for each in tuples if accepts(claim, each) is not (each in right)], [])
            self.assertEqual([each for each in right if accepts(certificate=each, claim=claim) is not True], [])

    def check_net(self, net, most):
        text, tuples = str(net), all_tuples(net.size, most)
        places = range(net.size + 1)
        self.check(("round", text), turned(all_rounds(net)), tuples)
        core = core_of(net)
        self.check(("no round", text), orders_off(net, ()) if core == () else (), tuples)
        for many in range(net.size + 1):
            for left in itertools.combinations(places, many):
                self.check(("core", text, left), orders_off(net, left) if core == left else (), tuples)
        for start, goal in itertools.product(places, repeat=2):
            there = max(start, goal) < net.size
            ways = all_ways(net, start, goal) if there and start != goal else ()
            self.check(("way", text, start, goal), ways, tuples)
            self.check(("no way", text, start, goal), [()] if there and start != goal and not ways else (), tuples)
            for roads in range(most):
                walks = [walk for walk in all_walks(net, start, roads) if walk[-1] == goal] if there else []
                self.check(("walk", text, start, goal, roads), walks, tuples)
                self.check(("no walk", text, start, goal, roads), [()] if there and not walks else (), tuples)

    def test_all_nets_of_one_and_two_places(self):
        for net in (*all_nets(1, "a"), *all_nets(2, "ab")):
            self.check_net(net, 4)

    def test_nets_of_three_places(self):
        for net in all_nets(3, "abc")[::3]:
            self.check_net(net, 4)

    def test_nets_of_four_places(self):
        for net in (SQUARE, PATH, FULL):
            self.check_net(net, 4)


class TestOthers(unittest.TestCase):
    def test_orders_and_cores(self):
        source = random.Random(121)
        for size in (5, 6, 7, 9):
            for _ in range(6):
                net = some_net(source, size, "ab", 0.4)
                core = core_of(net)
                others = [place for place in range(size) if place not in core]
                for _ in range(20):
                    source.shuffle(others)
                    order, left = tuple(others), list(range(size))
                    right = all(self.taken(net, left, place) for place in order)
                    with self.subTest(net=str(net), order=order):
                        self.assertIs(accepts(("core", str(net), core), order), right)
                        self.assertIs(accepts(("no round", str(net)), order), right and core == ())

    def taken(self, net, left, place):
        plain = is_plain_in(net, place, left)
        left.remove(place)
        return plain

    def test_too_few_and_too_many_places_are_no_core(self):
        # The place 4 of the kite is plain, the other ones are the core.
        text = str(KITE)
        self.assertIs(accepts(("core", text, (0, 1, 2, 3)), (4,)), True)
        for places, order in (((0, 1, 2, 3, 4), ()), ((0, 1, 2), (4, 3)), ((), (4, 0, 1, 2, 3)), ((0, 1, 2, 3), ()),
                              ((0, 1, 2, 3), (4, 4)), ((0, 1, 2, 3), (3, 4)), ((3, 2, 1, 0), (4,)),
                              ((0, 0, 1, 2, 3), (4,)), ((0, 1, 2, 4), (3,)), ((0, 1, 2, 3, 5), (4,)),
                              ([0, 1, 2, 3], (4,)), ((0, 1, 2, 3), [4]), ((False, 1, 2, 3), (4,)),
                              ((0, True, 2, 3), (4,)), (None, (4,)), ("0123", (4,)), ((0, 1, 2, 3), None)):
            with self.subTest(places=places, order=order):
                self.assertIs(accepts(("core", text, places), order), False)

    def test_empty_cores(self):
        self.assertIs(accepts(("core", "1:", ()), (0,)), True)
        self.assertIs(accepts(("no round", "1:"), (0,)), True)
        self.assertIs(accepts(("core", "1:", (0,)), ()), False)
        self.assertIs(accepts(("core", str(THREE), (0, 1, 2)), ()), True)
        self.assertIs(accepts(("core", str(THREE), ()), (0, 1, 2)), False)
        for order in itertools.permutations(range(9)):
            if order[0] == 4 and order[8] == 0:
                self.assertIs(accepts(("core", "9:", ()), order), True)

    def test_great_numbers(self):
        text = str(SQUARE)
        seven = "7: 0-1a 0-6c 1-2b 2-3a 3-4b 4-5a 5-6b"
        for many in (101, 10 ** 15, 2 ** 99, 10 ** 30 - 1, 10 ** 30):
            for start, goal in itertools.product(range(4), repeat=2):
                places = [place for place, _ in stands_after(SQUARE, [(start, None)], many)]
                with self.subTest(start=start, goal=goal, many=many):
                    self.assertIs(accepts(("no walk", text, start, goal, many), ()), goal not in places)
            for goal in range(7):
                self.assertIs(accepts(("no walk", seven, 0, goal, many), ()), goal not in (many % 7, -many % 7))
        for many in (10 ** 30 + 1, 10 ** 31, 10 ** 79, -1, *NO_INTEGERS):
            self.assertIs(accepts(("no walk", "1:", 0, 0, many), ()), False)
            self.assertIs(accepts(("walk", "1:", 0, 0, many), (0,)), False)
        self.assertIs(accepts(("no walk", "1:", 0, 0, 10 ** 30), ()), True)

    def test_hundred_roads_and_one_more(self):
        walk = (0, 1, 2, 3) * 26
        text = str(SQUARE)
        for many in (97, 98, 99, 100):
            self.assertIs(accepts(("walk", text, 0, many % 4, many), walk[:many + 1]), True)
            self.assertIs(accepts(("walk", text, 0, (many + 1) % 4, many), walk[:many + 2]), False)
        self.assertIs(accepts(("walk", text, 0, 1, 101), walk[:102]), False)
        self.assertIs(accepts(("walk", text, 0, 0, 100), walk[:100]), False)
        self.assertIs(accepts(("no walk", text, 0, 2, 101), ()), True)

    def test_places_that_equal_others(self):
        for claim, certificate in ((("way", "2: 0-1a", 0, 1), (False, True)), (("way", "2: 0-1a", False, 1), (0, 1)),
                                   (("way", "2: 0-1a", 0, True), (0, 1)), (("no way", "2:", False, 1), ()),
                                   (("no way", "2:", 0, True), ()), (("walk", "2: 0-1a", 0, 1, True), (0, 1)),
                                   (("walk", "2: 0-1a", 0, 1, 1), (0, True)), (("no walk", "2:", 0, 1, True), ()),
                                   (("no walk", "2:", 0, 1, False), ()), (("no round", "1:"), (False,)),
                                   (("core", "1:", ()), (False,)), (("round", str(THREE)), (0, True, 2))):
            with self.subTest(claim=claim):
                self.assertIs(accepts(claim, certificate), False)

    def test_wrong_kinds_of_certificates(self):
        right = ((("round", str(THREE)), (0, 1, 2)), (("no round", str(DULL)), (0, 1, 2)),
                 (("core", str(KITE), (0, 1, 2, 3)), (4,)), (("way", str(PATH), 1, 3), (1, 2, 3)),
                 (("no way", str(PATH), 0, 3), ()), (("walk", str(SQUARE), 0, 0, 4), (0, 1, 2, 3, 0)),
                 (("no walk", str(SQUARE), 0, 0, 6), ()), (("walk", str(LONE), 0, 0, 0), (0,)))
        for claim, certificate in right:
            with self.subTest(claim=claim):
                self.assertIs(accepts(claim, certificate), True)
                self.assertIs(accepts(list(claim), certificate), False)
                self.assertIs(accepts(claim, list(certificate)), False)
                self.assertIs(accepts((*claim, 0), certificate), False)
                self.assertIs(accepts((*claim, ()), certificate), False)
                self.assertIs(accepts(claim[:-1], certificate), False)
                self.assertIs(accepts((claim,), certificate), False)
                self.assertIs(accepts(claim, (certificate,)), False)
                self.assertIs(accepts(claim, (*certificate, 9)), False)
                for value in ANYTHING:
                    self.assertIs(accepts(claim, value), value.__class__ is tuple and value == certificate)
                    self.assertIs(accepts(claim, (*certificate, value)), False)

    def test_no_claims(self):
        certificates = ((), (0,), (0, 1), (0, 1, 2), None, [])
        for claim in (*ANYTHING, *((word,) for word in WORDS), *((word, "3:") for word in OTHER_WORDS),
                      *((word, "3:", 0, 1) for word in OTHER_WORDS)):
            for certificate in certificates:
                with self.subTest(claim=claim, certificate=certificate):
                    self.assertIs(accepts(claim, certificate), False)

    def test_texts(self):
        for text in NO_TEXTS:
            for claim in (("round", text), ("no round", text), ("core", text, ()), ("core", text, (0, 1, 2)),
                          ("way", text, 0, 1), ("no way", text, 0, 1), ("no way", text, 0, 2), ("walk", text, 0, 0, 0),
                          ("no walk", text, 0, 1, 5)):
                for certificate in ((), (0,), (0, 1), (0, 1, 2)):
                    with self.subTest(claim=claim, certificate=certificate):
                        self.assertIs(accepts(claim, certificate), False)

    def test_values_in_the_place_of_places(self):
        for value in (*NO_INTEGERS, -1, 4, 9, 10 ** 30, -(10 ** 30)):
            for claim in (("way", str(SQUARE), value, 1), ("way", str(SQUARE), 0, value),
                          ("no way", str(PATH), value, 3), ("no way", str(PATH), 0, value),
                          ("walk", str(SQUARE), value, 1, 1), ("walk", str(SQUARE), 0, value, 1),
                          ("no walk", str(SQUARE), value, 1, 2), ("no walk", str(SQUARE), 0, value, 2)):
                for certificate in ((), (0, 1), (value, 1), (0, value), (value,)):
                    with self.subTest(claim=claim, certificate=certificate):
                        self.assertIs(accepts(claim, certificate), False)


if __name__ == "__main__":
    unittest.main()
