"""Promise 9 of stage 3: the errors of unknown and changing, which one goes first, and that nothing right is refused."""

import itertools
import unittest

from hueturns.changing import least_closings, least_paintings, least_turnings, spare_roads
from hueturns.errors import InvalidHues, InvalidPairs, NotANet, TooGreat
from hueturns.nets import Net
from hueturns.unknown import best_pair, chances, hues_against, hues_for, sure_places, verdict
from tests.samples import (KITE, LONE, NO_INTEGERS, NO_NETS, NO_TUPLES, THREE, check_given, check_index, every_pair,
                           raised)

UNKNOWN = (chances, verdict, best_pair, hues_for, hues_against, sure_places)
PAINTING = (least_paintings, least_turnings)
CHANGING = (least_closings, spare_roads, *PAINTING)

# Elements that are no pairs of joined places of the kite, the lesser one first.
NO_PAIRS = (
    None, True, 0, "", "01", "0-1", b"01", [], [0, 1], {0, 1}, {0: 1}, object(), THREE, range(2),
    (), (0,), (0, 1, "a"), (0, 1, 2), ((0, 1),), ((0, 1), (0, 3)), (1, 0), (3, 0), (4, 3), (0, 0), (3, 3),
    (0, 2), (1, 3), (0, 4), (2, 4), (-1, 0), (3, 5), (4, 5), (0, 9), (0, 10 ** 30), (-(10 ** 30), 3),
    (False, 1), (0, True), (False, True), ("0", 1), (0, "1"), (None, 1), (0, None), ([0], 1), (0, (1,)), (b"0", 1),
)

NO_HUES_AT_ALL = (True, False, None, 0, 1, "", "g", "A", "AB", " ", "a ", " a", "a b", "ab ", "aa", "ba", "abb", "aab",
                  "acb", "abg", "ag", "abcdefg", "fedcba", "abcdeff", "a" * 4000, "0", "a,b", "a\n", b"a", b"ab", ("a",),
                  ("a", "b"), ["a"], ["a", "b"], {"a"}, {"a": 1}, object(), THREE, str)
NO_FOUR_HUES = (*NO_HUES_AT_ALL, "abcde", "bcdef", "abcdf", "abcdef")
ALL_HUES = tuple("".join(hues) for many in range(1, 7) for hues in itertools.combinations("abcdef", many))

WHOLE_SEVEN = Net(7, tuple((*pair, "abcdef"[sum(pair) % 6]) for pair in every_pair(7)))
TWELVE = Net(7, WHOLE_SEVEN.roads[:12])
THIRTEEN = Net(7, WHOLE_SEVEN.roads[:13])


def by_name(call, net, hues, pairs=None):
    """Calls a function of unknown or of changing with all arguments by name, the last one first."""
    if call in UNKNOWN:
        return call(hues=hues, pairs=pairs, net=net)
    return call(hues=hues, net=net) if call in PAINTING else call(net=net)


def by_position(call, net, hues):
    """Calls a function of changing."""
    return call(net, hues) if call in PAINTING else call(net)


class TestNets(unittest.TestCase):
    def test_no_net(self):
        for value in NO_NETS:
            for call in UNKNOWN:
                with self.subTest(call=call.__name__, value=value):
                    check_given(self, NotANet, value, call, value, (), "a")
                    check_given(self, NotANet, value, by_name, call, value, "a", ())
                    check_given(self, NotANet, value, call, value, [], [])
            for call in CHANGING:
                with self.subTest(call=call.__name__, value=value):
                    check_given(self, NotANet, value, by_position, call, value, "a")
                    check_given(self, NotANet, value, by_name, call, value, "a")
            for call in PAINTING:
                check_given(self, NotANet, value, call, value, "ba")


class TestPairs(unittest.TestCase):
    def check(self, index, pairs, net=KITE):
        for call in UNKNOWN:
            with self.subTest(call=call.__name__, pairs=pairs):
                check_index(self, InvalidPairs, index, call, net, pairs, "ab")
                check_index(self, InvalidPairs, index, by_name, call, net, "ab", pairs)
                check_index(self, InvalidPairs, index, call, net, pairs, "ba")

    def test_no_tuple(self):
        for pairs in (*NO_TUPLES, [(0, 1)], [(0, 1), (0, 3)], {(0, 1)}):
            self.check(None, pairs)

    def test_elements(self):
        for pair in NO_PAIRS:
            self.check(0, (pair,))
            self.check(0, (pair, pair))
            self.check(1, ((0, 1), pair, None))
            self.check(2, ((0, 1), (0, 3), pair, (1, 2)))
            self.check(4, ((0, 1), (0, 3), (1, 2), (2, 3), pair))

    def test_order(self):
        for index, pairs in ((1, ((0, 1), (0, 1))), (1, ((0, 3), (0, 1))), (1, ((1, 2), (0, 3), (0, 1))),
                             (2, ((0, 1), (1, 2), (1, 2), None)), (3, ((0, 1), (0, 3), (1, 2), (0, 3))),
                             (2, ((0, 1), (2, 3), (1, 2), None))):
            self.check(index, pairs)

    def test_six(self):
        pairs = tuple(road[:2] for road in WHOLE_SEVEN.roads)
        for many in (6, 7, 21):
            self.check(5, pairs[:many], WHOLE_SEVEN)
        self.check(5, (*pairs[:5], None), WHOLE_SEVEN)
        self.check(4, (*pairs[:4], None, pairs[6]), WHOLE_SEVEN)
        self.check(4, (*pairs[:4], pairs[3], *pairs[5:]), WHOLE_SEVEN)

    def test_places_of_other_nets(self):
        self.check(0, ((0, 1),), LONE)
        self.check(0, ((3, 4),), Net(4, KITE.roads[:4]))

    def test_up_to_five_are_right(self):
        pairs = tuple(road[:2] for road in KITE.roads)
        for many in range(6):
            for chosen in itertools.combinations(pairs, many):
                for call in UNKNOWN:
                    with self.subTest(call=call.__name__, pairs=chosen):
                        self.assertEqual(call(KITE, chosen, "bf"), by_name(call, KITE, "bf", chosen))


class TestHues(unittest.TestCase):
    def test_up_to_four(self):
        for hues in NO_FOUR_HUES:
            for call in UNKNOWN:
                for pairs in ((), ((0, 1),), ((0, 1), (3, 4))):
                    with self.subTest(call=call.__name__, hues=hues):
                        check_given(self, InvalidHues, hues, call, KITE, pairs, hues)
                        check_given(self, InvalidHues, hues, by_name, call, KITE, hues, pairs)

    def test_up_to_six(self):
        for hues in NO_HUES_AT_ALL:
            for call in PAINTING:
                for net in (KITE, LONE, THIRTEEN, WHOLE_SEVEN, Net(9, ())):
                    with self.subTest(call=call.__name__, hues=hues, net=str(net)):
                        check_given(self, InvalidHues, hues, call, net, hues)
                        check_given(self, InvalidHues, hues, by_name, call, net, hues)

    def test_all_right_ones(self):
        for hues in ALL_HUES:
            for call in PAINTING:
                self.assertEqual(call(KITE, hues), by_name(call, KITE, hues))
            for call in UNKNOWN:
                with self.subTest(call=call.__name__, hues=hues):
                    if len(hues) > 4:
                        check_given(self, InvalidHues, hues, call, KITE, (), hues)
                    else:
                        self.assertEqual(call(KITE, ((1, 2),), hues), by_name(call, KITE, hues, ((1, 2),)))


class TestTooGreat(unittest.TestCase):
    def check(self, given, net):
        for call in CHANGING:
            with self.subTest(call=call.__name__, net=str(net)):
                # Another number may be equal and still another object: so it is not asked whether it is the same one.
                for way in (by_position, by_name):
                    what = raised(self, TooGreat, way, call, net, "abcdef")
                    self.assertEqual((vars(what), what.given.__class__), ({"given": given}, int))

    def test_places(self):
        for size in (8, 9):
            self.check(size, Net(size, ()))
            self.check(size, Net(size, ((0, 1, "a"),)))
            self.check(size, Net(size, WHOLE_SEVEN.roads))

    def test_roads(self):
        self.check(13, THIRTEEN)
        self.check(21, WHOLE_SEVEN)
        self.check(15, Net(6, tuple((*pair, "a") for pair in every_pair(6))))

    def test_up_to_the_limit(self):
        for net in (TWELVE, Net(7, ()), Net(7, WHOLE_SEVEN.roads[6:11]), LONE):
            for call in CHANGING:
                with self.subTest(call=call.__name__, net=str(net)):
                    self.assertEqual(by_position(call, net, "ab"), by_name(call, net, "ab"))

    def test_no_limit_for_unknown_hues(self):
        nine = Net(9, tuple((*pair, "a") for pair in every_pair(9)))
        for call in UNKNOWN:
            self.assertEqual(call(nine, ((0, 1), (7, 8)), "ab"), by_name(call, nine, "ab", ((0, 1), (7, 8))))


if __name__ == "__main__":
    unittest.main()
