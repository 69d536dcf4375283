"""Promise 7 of turns: whether there is one, for each number of roads, and for all numbers at once."""

import random
import unittest

from hueturns.nets import Net
from hueturns.rounds import rounds_at
from hueturns.walks import has_turn, has_walk, turn_numbers
from tests.plain_search import LATE, LONG, all_nets, all_walks, hues_of, stands_after, triple_of, turns_told
from tests.samples import DULL, EMPTY_NINE, FULL, KITE, LONE, PATH, SQUARE, THREE, some_net, some_nets

SMALL = [*all_nets(1, "a"), *all_nets(2, "abc"), *all_nets(3, "abc")]
DOCUMENTS = (THREE, DULL, SQUARE, KITE, PATH, FULL)
GREAT = (101, 1000, 10 ** 15, 2 ** 99, 10 ** 30 - 2, 10 ** 30 - 1, 10 ** 30)


def is_turn(net, walk):
    """Whether a walk is a turn at its first place."""
    return (len(walk) >= 3 and walk[0] == walk[-1]
            and net.hue(walk[0], walk[1]) != net.hue(walk[-2], walk[-1]))


def turn_after(net, place, many):
    """Whether there is a turn of so many roads, found by going on step by step."""
    firsts = [(other, hue) for (one, other), hue in hues_of(net).items() if one == place]
    return any((place, last) in stands_after(net, [(other, first)], many - 1)
               for other, first in firsts for last in "abcdef" if last != first)


class TestTurns(unittest.TestCase):
    def check(self, net, most):
        for place in range(net.size):
            for many in range(most + 1):
                with self.subTest(net=str(net), place=place, many=many):
                    there = any(is_turn(net, walk) for walk in all_walks(net, place, many))
                    self.assertIs(has_turn(net, place, many), there)
                    self.assertIs(has_turn(many=many, place=place, net=net), there)

    def test_all_small_nets(self):
        for net in SMALL:
            self.check(net, 7)
        for net in all_nets(4, "ab")[::5]:
            self.check(net, 6)

    def test_documents_nets(self):
        for net in DOCUMENTS:
            self.check(net, 7)

    def test_other_nets(self):
        source = random.Random(61)
        for size in (5, 6, 9):
            for hues in ("ab", "abc"):
                self.check(some_net(source, size, hues, 0.3), 5)

    def test_less_than_two_roads(self):
        for net in (LONE, EMPTY_NINE, *DOCUMENTS):
            for place in range(net.size):
                for many in (0, 1, 2):
                    self.assertIs(has_turn(net, place, many), False)

    def test_first_and_last_road(self):
        # From the place 0 one comes back by five roads, but by the road that one went by.
        net = Net.read("4: 0-1a 1-2b 1-3c 2-3a")
        self.assertEqual([has_walk(net, 0, 0, 5), has_turn(net, 0, 5), has_turn(net, 1, 3)], [True, False, True])
        self.assertEqual([has_turn(DULL, place, 3) for place in range(3)], [False] * 3)

    def test_two_turns_are_one(self):
        for net in (*LONG, *DOCUMENTS):
            for place in range(net.size):
                found = [many for many in range(12) if has_turn(net, place, many)]
                self.assertEqual([many for many in found if not has_turn(net, place, 3 * many)], [])

    def test_rounds_are_turns(self):
        for net in (*LONG, *DOCUMENTS, *some_nets(62, 36, "abc")):
            if net.size < 8:
                for place in range(net.size):
                    for ring in rounds_at(net, place):
                        self.assertIs(has_turn(net, place, len(ring)), True)
                        self.assertIs(has_turn(net, place, len(ring) * 10 ** 28), True)


class TestManyRoads(unittest.TestCase):
    def test_each_number(self):
        for net in (*LONG, *DOCUMENTS):
            for place in range(net.size):
                with self.subTest(net=str(net), place=place):
                    self.assertEqual([has_turn(net, place, many) for many in range(50)], turns_told(net, place, 50))
        for net in LATE:
            self.assertEqual([has_turn(net, 0, many) for many in range(180)], turns_told(net, 0, 180))

    def test_great_numbers(self):
        source = random.Random(63)
        others = [some_net(source, size, hues, share) for size in (6, 7, 8, 9) for hues in ("ab", "abc")
                  for share in (0.2, 0.3)]
        for net in (*LONG, *LATE, *DOCUMENTS, *others, LONE, EMPTY_NINE):
            for place in (0, net.size - 1):
                for many in GREAT:
                    with self.subTest(net=str(net), place=place, many=many):
                        self.assertIs(has_turn(net, place, many), turn_after(net, place, many))

    def test_what_is_left_of_the_number(self):
        seven = Net.read("7: 0-1a 0-6c 1-2b 2-3a 3-4b 4-5a 5-6b")
        for many in (*GREAT, 10 ** 30 - 10 ** 30 % 7, 7 * 10 ** 29, 7, 8, 14):
            self.assertIs(has_turn(seven, 3, many), many % 7 == 0)


class TestAllNumbers(unittest.TestCase):
    def check(self, net, most=12):
        for place in range(net.size):
            with self.subTest(net=str(net), place=place):
                expected = triple_of(turns_told(net, place, 6 * most + 10), most)
                self.assertEqual([turn_numbers(net, place), turn_numbers(place=place, net=net)], [expected] * 2)

    def test_all_small_nets(self):
        for net in (*SMALL, *all_nets(4, "ab")[::7]):
            self.check(net, 20)

    def test_documents_nets(self):
        for net in DOCUMENTS:
            self.check(net, 20)

    def test_up_to_six_places(self):
        source = random.Random(64)
        for size in (4, 5, 6):
            for share in (0.2, 0.4, 0.6, 1):
                for hues in ("ab", "abc", "abcdef"):
                    self.check(some_net(source, size, hues, share), 40)

    def test_late_begins_and_long_periods(self):
        for net in LONG:
            self.check(net, 40)
        found = {turn_numbers(net, place)[1:] for net in LONG for place in range(6)}
        self.assertIn((36, 1), found)
        self.assertLessEqual({(1, 8), (1, 7), (1, 6)}, found)

    def test_no_road_is_never_a_turn(self):
        # Numbers come again from 1 on here: from 0 on they would, if no road at all were a turn.
        self.assertEqual([turn_numbers(SQUARE, 0), turn_numbers(THREE, 2)], [((4,), 1, 4), ((3,), 1, 3)])

    def test_no_turns(self):
        for net in (LONE, Net(6, ()), PATH, DULL, Net.read("2: 0-1a")):
            for place in range(net.size):
                self.assertEqual(turn_numbers(net, place), ((), 0, 1))
        self.assertEqual(turn_numbers(KITE, 4), ((), 0, 1))


if __name__ == "__main__":
    unittest.main()
