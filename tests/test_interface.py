"""The functions of cores, rounds, ways and walks: where they stand, what they take, and that they change nothing."""

import inspect
import itertools
import unittest

from hueturns import cores, rounds, walks, ways
from hueturns.nets import Net
from tests.samples import DULL, FULL, KITE, PATH, SQUARE, THREE, some_nets

LISTED = {
    cores: ("hues_to(net, place)", "is_plain(net, place)", "order_of(net)", "core(net)", "core_pieces(net)"),
    rounds: ("is_round(net, places)", "has_round(net)", "first_round(net)", "rounds(net)", "count_rounds(net)",
             "in_all(net)", "key_places(net)", "rounds_at(net, place)", "rounds_by(net, one, two)", "packed(net)"),
    ways: ("ways(net, start, goal, first=None, last=None)", "first_way(net, start, goal, first=None, last=None)",
           "far(net, start)", "apart(net)"),
    walks: ("has_walk(net, start, goal, many)", "count_walks(net, start, goal, many)",
            "first_walk(net, start, goal, many)", "walk_numbers(net, start, goal)", "reach(net, start, many)",
            "has_turn(net, place, many)", "turn_numbers(net, place)"),
}
ROWS = [(module, row.split("(")[0], row) for module, listed in LISTED.items() for row in listed]
VALUES = {"place": 2, "start": 2, "goal": 1, "one": 0, "two": 1, "many": 12, "places": (1, 2, 0), "first": None,
          "last": "b"}


def all_tuples(value):
    """Whether a value is of plain kinds alone, with tuples in the place of all that is gone through."""
    if value.__class__ is tuple:
        return all(all_tuples(each) for each in value)
    return value is None or value.__class__ in (bool, int, str)


class TestInterface(unittest.TestCase):
    def test_names_and_parameters(self):
        for module, name, row in ROWS:
            with self.subTest(row=row):
                function = getattr(module, name)
                self.assertTrue(inspect.isfunction(function))
                self.assertEqual(function.__module__, module.__name__)
                self.assertEqual(name + str(inspect.signature(function)), row)

    def arguments(self, module, name, net):
        return [net if each == "net" else VALUES[each] for each in inspect.signature(getattr(module, name)).parameters]

    def nets(self):
        others = [net for net in some_nets(71, 90, "abc") if 3 <= net.size <= 6 and net.hue(0, 1)]
        return [net for net in (THREE, DULL, SQUARE, KITE, PATH, FULL, *others)]

    def test_equal_calls_return_equal_results_and_change_nothing(self):
        for net in self.nets():
            text, roads = str(net), net.roads
            for module, name, row in ROWS:
                with self.subTest(net=text, row=row):
                    found = getattr(module, name)(*self.arguments(module, name, net))
                    again = getattr(module, name)(*self.arguments(module, name, Net.read(text)))
                    self.assertEqual(found, again)
                    self.assertIs(found.__class__, again.__class__)
                    self.assertTrue(all_tuples(found))
            self.assertEqual([str(net), net.roads, len(net)], [text, roads, len(roads)])

    def test_what_is_returned_may_be_passed(self):
        for net in self.nets():
            self.assertEqual(net.pieces(cores.core(net)), cores.core_pieces(net))
            for ring in rounds.rounds(net):
                self.assertIs(rounds.is_round(net, ring), True)
            for start, goal in itertools.permutations(range(net.size), 2):
                many = ways.far(net, start)[goal]
                self.assertTrue(many is None or walks.has_walk(net, start, goal, many))


if __name__ == "__main__":
    unittest.main()
