"""Promise 8: the errors of cores, rounds, ways and walks, which one goes first, and that nothing right is refused."""

import itertools
import unittest

from hueturns.cores import core, core_pieces, hues_to, is_plain, order_of
from hueturns.errors import InvalidHue, InvalidNumber, InvalidPlace, InvalidPlaces, NoRoad, NotANet, TooGreat
from hueturns.nets import Net
from hueturns.rounds import (count_rounds, first_round, has_round, in_all, is_round, key_places, packed, rounds,
                             rounds_at, rounds_by)
from hueturns.walks import count_walks, first_walk, has_turn, has_walk, reach, turn_numbers, walk_numbers
from hueturns.ways import apart, far, first_way, ways
from tests.samples import (KITE, LONE, NO_HUES, NO_INTEGERS, NO_NETS, NO_TUPLES, check_given, check_index, every_pair,
                           raised)

# All right arguments are those of a net of five places, with the place 3 first and the place 4 second.
NO_PLACES = (*NO_INTEGERS, -1, 5, 6, 9, 10 ** 30, 10 ** 79, -(10 ** 30))
NO_GOALS = (*NO_PLACES, 3)
NO_NUMBERS = (*NO_INTEGERS, -1, -(10 ** 30), 10 ** 30 + 1, 10 ** 79)
NO_FEW_NUMBERS = (*NO_NUMBERS, 101, 102, 10 ** 30)
NO_END_HUES = tuple(hue for hue in NO_HUES if hue is not None)

NET = ("net", KITE, NotANet, NO_NETS)
PLACE = ("place", 3, InvalidPlace, NO_PLACES)
START = ("start", 3, InvalidPlace, NO_PLACES)
ONE = ("one", 3, InvalidPlace, NO_PLACES)
TWO = ("two", 4, InvalidPlace, NO_GOALS)
GOAL = ("goal", 4, InvalidPlace, NO_PLACES)
OTHER_GOAL = ("goal", 4, InvalidPlace, NO_GOALS)
FIRST = ("first", "a", InvalidHue, NO_END_HUES)
LAST = ("last", "b", InvalidHue, NO_END_HUES)
MANY = ("many", 7, InvalidNumber, NO_NUMBERS)
FEW = ("many", 7, InvalidNumber, NO_FEW_NUMBERS)

# Each function with its parameters, in order.
CALLS = (
    (hues_to, (NET, PLACE)), (is_plain, (NET, PLACE)), (order_of, (NET,)), (core, (NET,)), (core_pieces, (NET,)),
    (has_round, (NET,)), (first_round, (NET,)), (rounds, (NET,)), (count_rounds, (NET,)), (in_all, (NET,)),
    (key_places, (NET,)), (rounds_at, (NET, PLACE)), (rounds_by, (NET, ONE, TWO)), (packed, (NET,)),
    (ways, (NET, START, OTHER_GOAL, FIRST, LAST)), (first_way, (NET, START, OTHER_GOAL, FIRST, LAST)),
    (far, (NET, START)), (apart, (NET,)),
    (has_walk, (NET, START, GOAL, MANY)), (count_walks, (NET, START, GOAL, FEW)), (first_walk, (NET, START, GOAL, FEW)),
    (walk_numbers, (NET, START, GOAL)), (reach, (NET, START, MANY)), (has_turn, (NET, PLACE, MANY)),
    (turn_numbers, (NET, PLACE)),
)
LIMITS = {rounds: 8, count_rounds: 8, in_all: 8, key_places: 8, rounds_at: 8, rounds_by: 8, packed: 8, ways: 8,
          walk_numbers: 6, turn_numbers: 6}


def right_values(parameters, net=KITE):
    """The right arguments by their names, in order."""
    return {name: net if name == "net" else value for name, value, _, _ in parameters}


def sized(size):
    """A net of this size in which all places are joined."""
    return Net(size, tuple((low, high, "abcdef"[(low + high) % 6]) for low, high in every_pair(size)))


class TestOneWrong(unittest.TestCase):
    def test_each_argument_by_itself(self):
        for call, parameters in CALLS:
            right = right_values(parameters)
            for name, _, error, wrong in parameters:
                for value in wrong:
                    with self.subTest(call=call.__name__, name=name, value=value):
                        named = {**right, name: value}
                        check_given(self, error, value, call, *named.values())
                        check_given(self, error, value, call, **dict(reversed(named.items())))

    def test_the_first_one_goes_first(self):
        for call, parameters in CALLS:
            right = right_values(parameters)
            for one, two in itertools.combinations(parameters, 2):
                for value, other in ((one[3][0], two[3][0]), (one[3][2], two[3][5]), (one[3][-2], two[3][-1])):
                    with self.subTest(call=call.__name__, one=one[0], two=two[0]):
                        named = {**right, one[0]: value, two[0]: other}
                        check_given(self, one[2], value, call, *named.values())
                        check_given(self, one[2], value, call, **dict(reversed(named.items())))

    def test_all_wrong(self):
        for call, parameters in CALLS:
            with self.subTest(call=call.__name__):
                nothing = [[] for _ in parameters]
                check_given(self, NotANet, nothing[0], call, *nothing)
                check_given(self, NotANet, nothing[0], call, **dict(zip(right_values(parameters), nothing)))

    def test_the_start_again(self):
        for call in (ways, first_way):
            for place in range(5):
                check_given(self, InvalidPlace, place, call, KITE, place, place)
                check_given(self, InvalidPlace, place, call, KITE, place, place, "g", "g")
                check_given(self, InvalidPlace, place, call, goal=place, start=place, net=KITE, last=0)
            check_given(self, InvalidPlace, 0, call, LONE, 0, 0)
            check_given(self, InvalidHue, "g", call, KITE, 0, 1, None, "g")
            check_given(self, InvalidHue, "g", call, KITE, 0, 1, last="g")
            check_given(self, InvalidHue, "g", call, KITE, 0, 1, "g", "h")
        for place in range(5):
            check_given(self, InvalidPlace, place, rounds_by, KITE, place, place)

    def test_places_of_other_nets(self):
        for call in (hues_to, is_plain, rounds_at, far, turn_numbers):
            check_given(self, InvalidPlace, 1, call, LONE, 1)
        for call in (has_walk, count_walks, first_walk):
            check_given(self, InvalidPlace, 4, call, sized(4), 4, 5, -1)
            check_given(self, InvalidPlace, 4, call, sized(4), 0, 4, -1)

    def test_what_equals_the_only_place(self):
        for call, parameters in CALLS:
            names = [name for name, _, _, _ in parameters]
            for name in names[1:]:
                zeros = [LONE if each == "net" else False if each == name else 0 for each in names]
                if name in ("place", "start", "one"):
                    with self.subTest(call=call.__name__, name=name):
                        check_given(self, InvalidPlace, False, call, *zeros)


class TestIsRound(unittest.TestCase):
    def test_no_net(self):
        for value in NO_NETS:
            check_given(self, NotANet, value, is_round, value, (0, 1, 2))
            check_given(self, NotANet, value, is_round, places=None, net=value)

    def test_no_tuple(self):
        for places in (*NO_TUPLES, [0, 1, 2, 3], [9]):
            with self.subTest(places=places):
                check_index(self, InvalidPlaces, None, is_round, KITE, places)
                check_index(self, InvalidPlaces, None, is_round, places=places, net=KITE)

    def test_elements(self):
        for place in NO_PLACES:
            with self.subTest(place=place):
                check_index(self, InvalidPlaces, 0, is_round, KITE, (place,))
                check_index(self, InvalidPlaces, 0, is_round, KITE, (place, place, 0))
                check_index(self, InvalidPlaces, 1, is_round, KITE, (0, place, 2, 3))
                check_index(self, InvalidPlaces, 3, is_round, places=(0, 1, 2, place), net=KITE)
                check_index(self, InvalidPlaces, 4, is_round, KITE, (0, 0, 0, 0, place))
                check_index(self, InvalidPlaces, 100, is_round, KITE, (0, 1) * 50 + (place,))

    def test_places_again_are_no_error(self):
        for places in ((), (4,), (4, 4), (4, 4, 4), (0, 1, 0, 1), (3, 2, 1, 0, 3), (4, 3, 2, 1, 0)):
            self.assertIs(is_round(KITE, places), False)


class TestNoRoad(unittest.TestCase):
    def test_no_road(self):
        for one, two in ((0, 2), (2, 0), (0, 4), (4, 1), (1, 3)):
            self.assertEqual(vars(raised(self, NoRoad, rounds_by, KITE, one, two)), {})
            raised(self, NoRoad, rounds_by, two=two, one=one, net=KITE)

    def test_behind_the_places_and_ahead_of_the_size(self):
        nine = Net(9, ((0, 1, "a"),))
        raised(self, NoRoad, rounds_by, nine, 0, 2)
        check_given(self, TooGreat, 9, rounds_by, nine, 1, 0)
        check_given(self, InvalidPlace, 9, rounds_by, nine, 0, 9)
        check_given(self, InvalidPlace, 2, rounds_by, nine, 2, 2)


class TestTooGreat(unittest.TestCase):
    def test_last_with_the_size(self):
        for call, parameters in CALLS:
            if call in LIMITS:
                for size in range(LIMITS[call] + 1, 10):
                    for net in (sized(size), Net(size, ((3, 4, "a"),))):
                        named = right_values(parameters, net)
                        with self.subTest(call=call.__name__, net=str(net)):
                            check_given(self, TooGreat, size, call, *named.values())
                            check_given(self, TooGreat, size, call, **dict(reversed(named.items())))
                            self.check_others_first(call, parameters, named)

    def check_others_first(self, call, parameters, named):
        for name, _, error, wrong in parameters:
            if name != "net":
                for value in (wrong[0], wrong[-1]):
                    check_given(self, error, value, call, *{**named, name: value}.values())

    def test_without_hues(self):
        check_given(self, TooGreat, 9, ways, sized(9), 0, 8)
        check_given(self, TooGreat, 9, ways, net=sized(9), goal=0, start=8, last="a")

    def test_what_is_right_is_not_refused(self):
        for call, parameters in CALLS:
            for size in range(5, LIMITS.get(call, 9) + 1):
                for net in (sized(size), Net(size, ((3, 4, "a"),))):
                    named = right_values(parameters, net)
                    with self.subTest(call=call.__name__, net=str(net)):
                        self.assertEqual(call(*named.values()), call(**dict(reversed(named.items()))))

    def test_one_place(self):
        for call, parameters in CALLS:
            names = [name for name, _, _, _ in parameters]
            if "two" not in names and "first" not in names:
                zeros = [LONE if name == "net" else 0 for name in names]
                with self.subTest(call=call.__name__):
                    call(*zeros)

    def test_all_places_of_nine(self):
        net = sized(9)
        for one, two in itertools.permutations(range(9), 2):
            self.assertIs(is_round(net, (one, two)), False)
            self.assertEqual(first_way(net, one, two), (one, two))
            self.assertIs(has_walk(net, one, two, 1), True)


class TestNumbers(unittest.TestCase):
    def test_up_to_the_limit(self):
        for many in (0, 1, 100, 101, 10 ** 30 - 1, 10 ** 30):
            has_walk(KITE, 3, 4, many)
            reach(KITE, 3, many)
            has_turn(KITE, 3, many)
        for many in (0, 1, 99, 100):
            count_walks(KITE, 3, 4, many)
            first_walk(KITE, 3, 4, many)

    def test_above_the_limit(self):
        for many in (10 ** 30 + 1, 10 ** 31, 10 ** 79):
            check_given(self, InvalidNumber, many, has_walk, KITE, 3, 4, many)
            check_given(self, InvalidNumber, many, reach, KITE, 3, many)
            check_given(self, InvalidNumber, many, has_turn, KITE, 3, many)
        for many in (101, 102, 10 ** 30):
            check_given(self, InvalidNumber, many, count_walks, KITE, 3, 4, many)
            check_given(self, InvalidNumber, many, first_walk, KITE, 3, 4, many)


if __name__ == "__main__":
    unittest.main()
