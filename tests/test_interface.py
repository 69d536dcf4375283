"""Promise 9 over the whole program: where all stands, what it takes, that nothing changes, and what is equal."""

import inspect
import itertools
import unittest

from hueturns import (books, certificates, changing, checker, console, cores, desks, nets, rounds, unknown, walks,
                      ways)
from hueturns.books import Book
from hueturns.console import Console
from hueturns.desks import Desk
from hueturns.nets import Net
from tests.samples import DULL, FULL, KITE, LONE, PATH, SQUARE, THREE, some_nets

LISTED = {
    nets: ("alike(net, other)",),
    cores: ("hues_to(net, place)", "is_plain(net, place)", "order_of(net)", "core(net)", "core_pieces(net)"),
    rounds: ("is_round(net, places)", "has_round(net)", "first_round(net)", "rounds(net)", "count_rounds(net)",
             "in_all(net)", "key_places(net)", "rounds_at(net, place)", "rounds_by(net, one, two)", "packed(net)"),
    ways: ("ways(net, start, goal, first=None, last=None)", "first_way(net, start, goal, first=None, last=None)",
           "far(net, start)", "apart(net)"),
    walks: ("has_walk(net, start, goal, many)", "count_walks(net, start, goal, many)",
            "first_walk(net, start, goal, many)", "walk_numbers(net, start, goal)", "reach(net, start, many)",
            "has_turn(net, place, many)", "turn_numbers(net, place)"),
    unknown: ("chances(net, pairs, hues)", "verdict(net, pairs, hues)", "best_pair(net, pairs, hues)",
              "hues_for(net, pairs, hues)", "hues_against(net, pairs, hues)", "sure_places(net, pairs, hues)"),
    changing: ("least_closings(net)", "least_paintings(net, hues)", "least_turnings(net, hues)", "spare_roads(net)"),
    checker: ("accepts(claim, certificate)",),
    certificates: ("certify_round(net)", "certify_core(net)", "certify_way(net, start, goal)",
                   "certify_walk(net, start, goal, many)"),
}
TRIALS = ("changes", "undo(self)", "trial(self)", "tried(self, action)")
CLASSES = {
    (nets, "Net(size, roads)"): ("size", "roads", "hue(self, one, two)", "roads_at(self, place)",
                                 "pieces(self, places)", "painted(self, one, two, hue)", "closed(self, one, two)",
                                 "swapped(self, one, two)", "__len__(self)", "__str__(self)", "__repr__(self)"),
    (desks, "Desk(net)"): ("net", "core", "paint(self, one, two, hue)", "close(self, one, two)", "grow(self)",
                           "drop(self)", "swap(self, one, two)", *TRIALS),
    (books, "Book()"): ("names", "wishes", "drop(self, name)", "wish(self, wish)", "lift(self, index)",
                        "do_all(self, *deeds, watch=None)", "__len__(self)", *TRIALS),
    (console, "Console(net)"): ("say(self, line)",),
}
ROWS = [(module, row.split("(")[0], row) for module, listed in LISTED.items() for row in listed]
VALUES = {"place": 2, "start": 2, "goal": 1, "one": 0, "two": 1, "many": 12, "places": (1, 2, 0), "first": None,
          "last": "b", "pairs": ((0, 1),), "hues": "ab", "other": KITE, "certificate": (0, 2, 1),
          "claim": ("no round", "3: 0-1a 0-2a 1-2b")}


def values_of(names, net):
    """The arguments for parameters of these names."""
    return [net if name == "net" else VALUES[name] for name in names]


def all_tuples(value):
    """Whether a value is of plain kinds alone, with tuples in the place of all that is gone through."""
    if value.__class__ is tuple:
        return all(all_tuples(each) for each in value)
    return value is None or value.__class__ in (bool, int, str)


class TestInterface(unittest.TestCase):
    def test_names_and_parameters(self):
        for module, name, row in ROWS:
            with self.subTest(row=row):
                function = getattr(module, name)
                self.assertTrue(inspect.isfunction(function))
                self.assertEqual(function.__module__, module.__name__)
                self.assertEqual(name + str(inspect.signature(function)), row)

    def test_classes(self):
        for (module, made), listed in CLASSES.items():
            kind = getattr(module, made.split("(")[0])
            self.assertEqual(kind.__module__, module.__name__)
            self.assertEqual(kind.__name__ + str(inspect.signature(kind)), made)
            for row in listed:
                with self.subTest(made=made, row=row):
                    found = vars(kind)[row.split("(")[0]]
                    if "(" in row:
                        self.assertEqual(found.__name__ + str(inspect.signature(found)), row)
                    else:
                        self.assertIsInstance(found, property)
        self.assertIsInstance(vars(Net)["read"], staticmethod)
        for name in ("__setitem__", "__getitem__", "__contains__"):
            self.assertIn(name, vars(Book))

    def some_nets(self):
        others = [net for net in some_nets(71, 90, "abc") if 3 <= net.size <= 6 and net.hue(0, 1) and len(net) < 13]
        return [THREE, DULL, SQUARE, KITE, PATH, FULL, *others]

    def test_equal_calls_return_equal_results_and_change_nothing(self):
        for net in self.some_nets():
            text, roads, kept = str(net), net.roads, repr(vars(net))
            for module, name, row in ROWS:
                with self.subTest(net=text, row=row):
                    names = list(inspect.signature(getattr(module, name)).parameters)
                    found = getattr(module, name)(*values_of(names, net))
                    again = getattr(module, name)(**dict(zip(reversed(names), reversed(values_of(names, net)))))
                    other = getattr(module, name)(*values_of(names, Net.read(text)))
                    self.assertEqual([again, other], [found, found])
                    self.assertEqual([again.__class__, other.__class__], [found.__class__] * 2)
                    self.assertTrue(all_tuples(found))
            self.assertEqual([str(net), net.roads, len(net), repr(vars(net))], [text, roads, len(roads), kept])

    def test_what_is_returned_may_be_passed(self):
        for net in self.some_nets():
            self.assertEqual(net.pieces(cores.core(net)), cores.core_pieces(net))
            for ring in rounds.rounds(net):
                self.assertIs(rounds.is_round(net, ring), True)
            for start, goal in itertools.permutations(range(net.size), 2):
                many = ways.far(net, start)[goal]
                self.assertTrue(many is None or walks.has_walk(net, start, goal, many))
            pairs = changing.spare_roads(net)[:5]
            self.assertEqual(unknown.sure_places(net, pairs, net.roads[0][2]).__class__, tuple)
            for claim, certificate in (certificates.certify_round(net), certificates.certify_core(net)):
                self.assertIs(checker.accepts(claim, certificate), True)


class TestObjects(unittest.TestCase):
    def made(self):
        """One object of each class and another one like it."""
        desk, book = Desk(KITE), Book()
        return [(Net.read("1:"), Net.read("2:")), (desk, Desk(KITE)), (book, Book()), (desk.trial(), desk.trial()),
                (book.trial(), book.trial()), (Console(KITE), Console(KITE))]

    def test_equal_to_themselves_alone(self):
        every = [each for pair in self.made() for each in pair]
        for at, one in enumerate(every):
            for place, other in enumerate(every):
                with self.subTest(one=one, other=other):
                    self.assertIs(one == other, at == place)
                    self.assertIs(one != other, at != place)

    def test_nets_are_equal_by_their_texts(self):
        for net in (THREE, KITE, LONE):
            again = Net.read(str(net))
            self.assertEqual([net == again, net != again, net == Net(9, ()), net != Net(9, ())],
                             [True, False, False, True])

    def test_never_equal_to_values_of_other_classes(self):
        for one, _ in self.made():
            for value in (None, True, False, 0, 1, "", "1:", "3:", b"", (), [], {}, set(), object(), Net, Desk, len,
                          str(one), repr(one), (one,), [one]):
                with self.subTest(one=one, value=value):
                    self.assertEqual([one == value, value == one, one != value, value != one],
                                     [False, False, True, True])

    def test_truth(self):
        self.assertEqual([bool(one) for one, _ in self.made()], [True, True, False, True, True, True])

    def test_nothing_that_is_passed_is_changed(self):
        net, other = Net.read(str(KITE)), Net.read(str(SQUARE))
        kept = [repr(vars(net)), repr(vars(other))]
        desk, console_by_it, book = Desk(net), Console(net), Book()
        desk.paint(0, 4, "f")
        desk.drop()
        for line in ("paint 0 2 e", "drop", "grow", "swap 0 1", "undo"):
            console_by_it.say(line)
        deeds = (("put", "a", net), ("put", "b", other), ("wish", ("round", "a")), ("lift", 0), ("drop", "a"))
        told = repr(deeds[2:])
        book.do_all(*deeds)
        book.tried(lambda same: same.do_all(*deeds[:1]))
        self.assertEqual([repr(vars(net)), repr(vars(other)), repr(deeds[2:])], [*kept, told])
        self.assertIs(book["b"], other)


if __name__ == "__main__":
    unittest.main()
