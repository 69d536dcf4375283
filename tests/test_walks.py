"""Promise 6 of walks: whether, where to, how many and which first, for each number of roads, and for all at once."""

import itertools
import random
import unittest

from hueturns.nets import Net
from hueturns.walks import count_walks, first_walk, has_walk, reach, walk_numbers
from tests.plain_search import LATE, LONG, all_nets, all_walks, is_path, stands_after, triple_of, walks_told
from tests.samples import DULL, EMPTY_NINE, FULL, KITE, LONE, PATH, SQUARE, THREE, some_net

SMALL = [*all_nets(1, "a"), *all_nets(2, "abc"), *all_nets(3, "abc")]
DOCUMENTS = (THREE, DULL, SQUARE, KITE, PATH, FULL)
GREAT = (101, 1000, 10 ** 6 + 1, 10 ** 15, 2 ** 99, 2 ** 99 - 1, 10 ** 30 - 2, 10 ** 30 - 1, 10 ** 30)
NINE = some_net(random.Random(50), 9, "abcdef", 1)


def some_of(seed, sizes, shares=(0.3, 0.5, 0.8), colours=("ab", "abc", "abcdef")):
    """Nets of these sizes, thin and dense ones, in few and many hues."""
    source = random.Random(seed)
    return [some_net(source, size, hues, share) for size in sizes for share in shares for hues in colours]


class TestFewRoads(unittest.TestCase):
    def check(self, net, most):
        for start in range(net.size):
            for many in range(most + 1):
                with self.subTest(net=str(net), start=start, many=many):
                    walks = all_walks(net, start, many)
                    self.assertEqual(reach(net, start, many), tuple(sorted({walk[-1] for walk in walks})))
                    for goal in range(net.size):
                        self.check_goal(net, start, goal, many, [walk for walk in walks if walk[-1] == goal])

    def check_goal(self, net, start, goal, many, walks):
        self.assertIs(has_walk(net, start, goal, many), bool(walks))
        self.assertEqual(count_walks(net, start, goal, many), len(walks))
        self.assertEqual(first_walk(net, start, goal, many), walks[0] if walks else None)

    def test_all_small_nets(self):
        for net in SMALL:
            self.check(net, 5)
        for net in all_nets(4, "ab")[::5]:
            self.check(net, 5)

    def test_documents_nets(self):
        for net in DOCUMENTS:
            self.check(net, 6)

    def test_up_to_nine_places(self):
        for net in some_of(51, (5, 6, 7, 8, 9), (0.3, 0.5), ("ab", "abc")):
            self.check(net, 3)
        self.check(NINE, 2)

    def test_no_road_at_all(self):
        for net in (LONE, EMPTY_NINE, *DOCUMENTS):
            for start, goal in itertools.product(range(net.size), repeat=2):
                same = start == goal
                with self.subTest(net=str(net), start=start, goal=goal):
                    self.assertIs(has_walk(net, start, goal, 0), same)
                    self.assertEqual(count_walks(net, start, goal, 0), int(same))
                    self.assertEqual(first_walk(net, start, goal, 0), (start,) if same else None)
                    self.assertEqual(reach(net, start, 0), (start,))

    def test_never_straight_back(self):
        net = Net.read("2: 0-1a")
        self.assertEqual([has_walk(net, 0, 1, 1), has_walk(net, 0, 0, 2), count_walks(net, 0, 0, 2)], [True, False, 0])
        self.assertEqual([first_walk(net, 0, 0, 2), reach(net, 0, 2), reach(net, 0, 1)], [None, (), (1,)])

    def test_back_to_places(self):
        # It comes by the place 1 twice, which no way does.
        net = Net.read("4: 0-1a 1-2b 1-3c 2-3a")
        self.assertEqual(first_walk(net, 0, 0, 5), (0, 1, 2, 3, 1, 0))
        self.assertEqual([count_walks(net, 0, 0, 5), has_walk(net, 0, 0, 5)], [2, True])

    def test_by_name(self):
        self.assertIs(has_walk(many=4, goal=0, start=0, net=SQUARE), True)
        self.assertEqual(count_walks(many=2, goal=2, start=0, net=SQUARE), 2)
        self.assertEqual(first_walk(many=4, goal=0, start=0, net=SQUARE), (0, 1, 2, 3, 0))
        self.assertEqual(reach(many=3, start=0, net=SQUARE), (1, 3))
        self.assertEqual(walk_numbers(goal=1, start=0, net=SQUARE), ((1,), 0, 2))


class TestManyRoads(unittest.TestCase):
    def check(self, net, starts):
        for start in starts:
            for many in (7, 12, 13, 99, 100, *GREAT):
                places = sorted({place for place, _ in stands_after(net, [(start, None)], many)})
                with self.subTest(net=str(net), start=start, many=many):
                    self.assertEqual(reach(net, start, many), tuple(places))
                    for goal in range(net.size):
                        self.assertIs(has_walk(net, start, goal, many), goal in places)

    def test_small_nets(self):
        for net in (*SMALL[::3], *all_nets(4, "ab")[::29]):
            self.check(net, range(net.size))

    def test_documents_nets(self):
        for net in (*DOCUMENTS, LONE):
            self.check(net, range(net.size))

    def test_other_nets(self):
        for net in (*LONG, *LATE):
            self.check(net, (0, 5))
        for net in some_of(52, (5, 6, 7, 8, 9), (0.2, 0.3)):
            self.check(net, (0, net.size - 1))
        self.check(EMPTY_NINE, (0, 8))
        self.check(NINE, (4,))

    def test_numbers_that_come_again(self):
        # It goes round by seven roads, and cannot turn round: so what is left of the number decides.
        seven = Net.read("7: 0-1a 0-6c 1-2b 2-3a 3-4b 4-5a 5-6b")
        for many in GREAT:
            expected = tuple(sorted({many % 7, -many % 7}))
            self.assertEqual(reach(seven, 0, many), expected)
            self.assertEqual([place for place in range(7) if has_walk(seven, 0, place, many)], list(expected))

    def test_each_number_up_to_three_hundred(self):
        for net in (SQUARE, KITE, LONG[4], *LATE):
            self.assertEqual([has_walk(net, 0, 1, many) for many in range(300)], walks_told(net, 0, 1, 300))


class TestUpToHundred(unittest.TestCase):
    def counted(self, net, start, many):
        counts = {(start, None): 1}
        for _ in range(many):
            more = {}
            for (place, came), count in counts.items():
                for other, hue in net.roads_at(place):
                    if hue != came:
                        more[other, hue] = more.get((other, hue), 0) + count
            counts = more
        return [sum(count for (place, _), count in counts.items() if place == goal) for goal in range(net.size)]

    def test_counts(self):
        for net in (*DOCUMENTS, *LONG, NINE, EMPTY_NINE):
            for many in (10, 50, 99, 100):
                counts = self.counted(net, 1, many)
                with self.subTest(net=str(net), many=many):
                    self.assertEqual([count_walks(net, 1, goal, many) for goal in range(net.size)], counts)
                    self.assertEqual([has_walk(net, 1, goal, many) for goal in range(net.size)],
                                     [count > 0 for count in counts])

    def test_all_roads_of_other_hues(self):
        # Each place has one road of each hue, so that each walk can go on by all roads but the one that it came by.
        self.assertEqual([sum(count_walks(FULL, 0, goal, many) for goal in range(4)) for many in (1, 2, 7, 100)],
                         [3, 6, 192, 3 * 2 ** 99])

    def test_first_walks(self):
        for net in (*DOCUMENTS, *LONG, NINE):
            for many in (10, 50, 99, 100):
                for goal in range(net.size):
                    with self.subTest(net=str(net), many=many, goal=goal):
                        self.check_first(net, 2, goal, many)

    def check_first(self, net, start, goal, many):
        walk = first_walk(net, start, goal, many)
        self.assertIs(walk is not None, has_walk(net, start, goal, many))
        if walk is not None:
            self.assertEqual([len(walk), walk[0], walk[-1], is_path(net, walk)], [many + 1, start, goal, True])
            for at in range(many):
                came = net.hue(walk[at - 1], walk[at]) if at else None
                for other, hue in net.roads_at(walk[at]):
                    if other < walk[at + 1] and hue != came:
                        ends = stands_after(net, [(other, hue)], many - at - 1)
                        self.assertNotIn(goal, [place for place, _ in ends])

    def test_the_first_one_of_hundred_roads(self):
        self.assertEqual(first_walk(SQUARE, 0, 0, 100), (0, 1, 2, 3) * 25 + (0,))
        self.assertEqual(first_walk(FULL, 0, 1, 100)[:7], (0, 1, 2, 0, 1, 2, 0))


class TestAllNumbers(unittest.TestCase):
    def check(self, net, most=12, goals=None):
        for start, goal in itertools.product(range(net.size), goals or range(net.size)):
            with self.subTest(net=str(net), start=start, goal=goal):
                told = walks_told(net, start, goal, 6 * most + 10)
                self.assertEqual(walk_numbers(net, start, goal), triple_of(told, most))

    def test_all_small_nets(self):
        for net in SMALL:
            self.check(net)
        for net in all_nets(4, "ab")[::7]:
            self.check(net)

    def test_documents_nets(self):
        for net in DOCUMENTS:
            self.check(net)

    def test_up_to_six_places(self):
        for net in some_of(53, (4, 5, 6), (0.2, 0.4, 0.6, 1)):
            self.check(net, 40, (0, net.size - 1))

    def test_late_begins_and_long_periods(self):
        for net in LONG:
            self.check(net, 40)
        begins = {walk_numbers(net, start, goal)[1:] for net in LONG for start in range(6) for goal in range(6)}
        self.assertGreaterEqual(max(begin for begin, _ in begins), 21)
        self.assertIn((1, 8), begins)
        self.assertIn((0, 7), begins)

    def test_one_place_and_no_roads(self):
        self.assertEqual(walk_numbers(LONE, 0, 0), ((0,), 1, 1))
        self.assertEqual([walk_numbers(Net(6, ()), 5, 5), walk_numbers(Net(6, ()), 5, 4)], [((0,), 1, 1), ((), 0, 1)])

    def test_they_agree_with_great_numbers(self):
        for net in (*LONG, *DOCUMENTS):
            numbers, begin, period = walk_numbers(net, 0, 1)
            for many in GREAT:
                with self.subTest(net=str(net), many=many):
                    self.assertIs(has_walk(net, 0, 1, many), begin + (many - begin) % period in numbers)


if __name__ == "__main__":
    unittest.main()
