"""The examples of the document, with what they print."""

import unittest

from hueturns.books import Book
from hueturns.certificates import certify_core, certify_round, certify_walk, certify_way
from hueturns.changing import least_closings, least_paintings, least_turnings, spare_roads
from hueturns.checker import accepts
from hueturns.console import Console
from hueturns.cores import core, core_pieces, hues_to, is_plain, order_of
from hueturns.desks import Desk
from hueturns.errors import Broken, InvalidLine, InvalidText, NoRoad
from hueturns.nets import Net, alike
from hueturns.rounds import (count_rounds, first_round, has_round, in_all, is_round, key_places, packed, rounds,
                             rounds_at, rounds_by)
from hueturns.unknown import best_pair, chances, hues_against, hues_for, sure_places, verdict
from hueturns.walks import count_walks, first_walk, has_turn, has_walk, reach, turn_numbers, walk_numbers
from hueturns.ways import apart, far, first_way, ways
from tests.samples import DULL, FULL, KITE, PATH, SQUARE, THREE, check_given, check_index, raised


class TestNets(unittest.TestCase):
    def test_listed(self):
        found = [THREE.roads, THREE.hue(2, 0), PATH.hue(0, 3), KITE.roads_at(3), KITE.pieces((0, 2, 4)),
                 KITE.pieces((0, 1, 3, 4)), str(DULL.painted(2, 0, "c")), str(PATH.closed(1, 2)),
                 str(PATH.swapped(0, 3)), len(FULL), repr(FULL), alike(DULL, Net.read("3: 0-1d 0-2f 1-2d")),
                 alike(DULL, THREE)]
        printed = ("[((0, 1, 'a'), (0, 2, 'c'), (1, 2, 'b')), 'c', None, ((0, 'b'), (2, 'a'), (4, 'a')), "
                   "((0,), (2,), (4,)), ((0, 1, 3, 4),), '3: 0-1a 0-2c 1-2b', '4: 0-1a 2-3b', "
                   "'4: 0-2b 1-2a 1-3a', 6, 'Net of 4 places', True, False]")
        self.assertEqual(repr(found), printed)

    def test_wrong_text(self):
        check_given(self, InvalidText, "3: 0-2a 0-1b", Net.read, "3: 0-2a 0-1b")


class TestCores(unittest.TestCase):
    def test_plain_places(self):
        found = [hues_to(DULL, 1), hues_to(KITE, 3), hues_to(PATH, 2), is_plain(DULL, 0), is_plain(DULL, 1),
                 is_plain(PATH, 2)]
        printed = ("[(((0, 2), 'ab'),), (((0, 1, 2), 'ab'), ((4,), 'a')), (((0, 1), 'a'), ((3,), 'b')), "
                   "True, False, True]")
        self.assertEqual(repr(found), printed)

    def test_taken_off(self):
        found = [order_of(DULL), core(DULL), order_of(THREE), core(THREE), order_of(KITE), core(KITE), order_of(PATH),
                 core_pieces(KITE), core_pieces(PATH)]
        printed = ("[(0, 1, 2), (), (), (0, 1, 2), (4,), (0, 1, 2, 3), (0, 1, 2, 3), ((0, 1, 2, 3),), ()]")
        self.assertEqual(repr(found), printed)


class TestRounds(unittest.TestCase):
    def test_told(self):
        found = [first_round(THREE), first_round(DULL), has_round(KITE), rounds(KITE), count_rounds(FULL), in_all(KITE),
                 in_all(FULL), in_all(PATH)]
        printed = ("[(0, 1, 2), None, True, ((0, 1, 2, 3),), ((3, 4), (4, 3)), "
                   "((0, 1), (0, 3), (1, 2), (2, 3)), (), None]")
        self.assertEqual(repr(found), printed)

    def test_asked(self):
        found = [is_round(SQUARE, (2, 1, 0, 3)), is_round(SQUARE, (0, 1, 2)), is_round(DULL, (0, 1, 2)),
                 is_round(FULL, (0, 1)), rounds(FULL)[-1], rounds_at(KITE, 4), len(rounds_at(FULL, 0)), packed(SQUARE),
                 len(packed(FULL)), packed(DULL), key_places(KITE), key_places(FULL), key_places(DULL),
                 rounds_by(KITE, 4, 3), len(rounds_by(FULL, 0, 1))]
        printed = ("[True, False, False, False, (0, 2, 1, 3), (), 6, ((0, 1, 2, 3),), 1, (), (0, 1, 2, 3), (), None, "
                   "(), 4]")
        self.assertEqual(repr(found), printed)


class TestWays(unittest.TestCase):
    def test_told(self):
        found = [ways(PATH, 0, 3), first_way(PATH, 1, 3), far(PATH, 0), ways(SQUARE, 0, 2), ways(SQUARE, 0, 2, "a"),
                 ways(SQUARE, 0, 2, last="a"), first_way(SQUARE, 0, 1, "b")]
        printed = ("[(), (1, 2, 3), (0, 1, None, None), ((0, 1, 2), (0, 3, 2)), ((0, 1, 2),), ((0, 3, 2),), "
                   "(0, 3, 2, 1)]")
        self.assertEqual(repr(found), printed)

    def test_apart(self):
        found = [apart(PATH), apart(FULL), far(KITE, 4), first_way(KITE, 4, 2), first_way(KITE, 4, 0, last="b")]
        printed = "[((0, 2), (0, 3)), (), (2, 3, 4, 1, 0), (4, 3, 0, 1, 2), (4, 3, 0)]"
        self.assertEqual(repr(found), printed)


class TestWalks(unittest.TestCase):
    def test_told(self):
        found = [has_walk(SQUARE, 0, 0, 10 ** 30), has_walk(SQUARE, 0, 0, 6), count_walks(SQUARE, 0, 2, 2),
                 count_walks(SQUARE, 0, 0, 8), count_walks(FULL, 0, 0, 3), first_walk(SQUARE, 0, 0, 4),
                 first_walk(PATH, 0, 3, 3), first_walk(DULL, 1, 1, 0)]
        self.assertEqual(repr(found), "[True, False, 2, 2, 6, (0, 1, 2, 3, 0), None, (1,)]")

    def test_all_numbers(self):
        found = [walk_numbers(SQUARE, 0, 0), walk_numbers(SQUARE, 0, 1), walk_numbers(PATH, 0, 3),
                 walk_numbers(PATH, 1, 3), walk_numbers(DULL, 0, 1)]
        printed = "[((0,), 0, 4), ((1,), 0, 2), ((), 0, 1), ((2,), 3, 1), ((1, 2), 3, 1)]"
        self.assertEqual(repr(found), printed)

    def test_reach_and_turns(self):
        found = [reach(SQUARE, 0, 3), reach(KITE, 4, 10 ** 30), reach(PATH, 0, 2), has_turn(SQUARE, 0, 4),
                 has_turn(DULL, 0, 3), has_turn(DULL, 1, 3), turn_numbers(SQUARE, 0), turn_numbers(THREE, 2)]
        printed = "[(1, 3), (2,), (), True, False, False, ((4,), 1, 4), ((3,), 1, 3)]"
        self.assertEqual(repr(found), printed)


class TestUnknown(unittest.TestCase):
    def test_told(self):
        found = [chances(DULL, ((0, 1),), "abc"), verdict(DULL, ((0, 1),), "abc"), verdict(PATH, ((0, 1),), "ab"),
                 verdict(KITE, ((3, 4),), "ab"), chances(SQUARE, (), "a"), sure_places(KITE, ((3, 4),), "ab")]
        self.assertEqual(repr(found), "[(1, 3), 'perhaps', 'never', 'surely', (1, 1), (0, 1, 2, 3)]")

    def test_asked(self):
        found = [chances(DULL, ((0, 1), (0, 2)), "abc"), best_pair(DULL, ((0, 1), (0, 2)), "abc"),
                 best_pair(DULL, (), "a"), sure_places(DULL, ((0, 1),), "abc"), hues_for(DULL, ((0, 1),), "abc"),
                 hues_for(PATH, ((0, 1),), "ab"), hues_against(KITE, ((3, 4),), "ab"), hues_against(PATH, (), "ab")]
        self.assertEqual(repr(found), "[(2, 9), (0, 1), None, (), 'c', None, None, '']")


class TestChanging(unittest.TestCase):
    def test_told(self):
        found = [least_closings(SQUARE), least_closings(DULL), least_paintings(SQUARE, "ab"), spare_roads(KITE),
                 spare_roads(DULL)]
        printed = ("[(((0, 1),), ((0, 3),), ((1, 2),), ((2, 3),)), ((),), (((0, 1, 'b'),), ((0, 3, 'a'),), "
                   "((1, 2, 'a'),), ((2, 3, 'b'),)), ((3, 4),), ((0, 1), (0, 2), (1, 2))]")
        self.assertEqual(repr(found), printed)

    def test_turnings(self):
        found = [least_turnings(DULL, "abc"), least_turnings(DULL, "ab"), least_turnings(THREE, "a")]
        self.assertEqual(repr(found), "[(((0, 1, 'c'),), ((0, 2, 'c'),)), None, ((),)]")


class TestDesks(unittest.TestCase):
    def test_led(self):
        desk = Desk(DULL)
        found = [desk.paint(2, 0, "c"), desk.core, desk.grow(), desk.paint(3, 1, "a"), str(desk.net), desk.core,
                 desk.drop(), desk.net == THREE, desk.changes, desk.undo(), len(desk.net)]
        self.assertEqual(repr(found), "[None, (0, 1, 2), None, None, '4: 0-1a 0-2c 1-2b 1-3a', (0, 1, 2), None, True, "
                                      "4, None, 4]")

    def test_no_road(self):
        raised(self, NoRoad, Desk(PATH).close, 0, 2)


class TestBooks(unittest.TestCase):
    def test_deeds(self):
        book = Book()
        found = [book.do_all(("put", "main", SQUARE), ("wish", ("round", "main")), ("wish", ("walk", "main", 0, 2, 2))),
                 book.names, book.changes]
        self.assertEqual(repr(found), "[3, ('main',), 3]")
        check_index(self, Broken, 0, book.do_all, ("put", "main", FULL), ("put", "main", PATH))


class TestCertificates(unittest.TestCase):
    def test_told(self):
        found = [certify_round(THREE)[0], certify_round(DULL)[0], certify_core(KITE), certify_way(PATH, 0, 3),
                 certify_way(PATH, 1, 3), certify_walk(SQUARE, 0, 0, 6)]
        printed = ("[('round', '3: 0-1a 0-2c 1-2b'), ('no round', '3: 0-1a 0-2a 1-2b'), "
                   "(('core', '5: 0-1a 0-3b 1-2b 2-3a 3-4a', (0, 1, 2, 3)), (4,)), "
                   "(('no way', '4: 0-1a 1-2a 2-3b', 0, 3), ()), (('way', '4: 0-1a 1-2a 2-3b', 1, 3), (1, 2, 3)), "
                   "(('no walk', '4: 0-1a 0-3b 1-2b 2-3a', 0, 0, 6), ())]")
        self.assertEqual(repr(found), printed)

    def test_accepted(self):
        found = [accepts(("round", "4: 0-1a 0-3b 1-2b 2-3a"), (3, 2, 1, 0)),
                 accepts(("no round", "3: 0-1a 0-2a 1-2b"), (0, 2, 1)),
                 accepts(("no round", "3: 0-1a 0-2a 1-2b"), (1, 0, 2)),
                 accepts(("core", "3: 0-1a 0-2a 1-2b", ()), (0, 1, 2)),
                 accepts(("walk", "4: 0-1a 0-3b 1-2b 2-3a", 0, 0, 4), (0, 3, 2, 1, 0))]
        self.assertEqual(repr(found), "[True, True, False, True, True]")


class TestConsole(unittest.TestCase):
    def test_said(self):
        console = Console(DULL)
        lines = ("round", "order", "paint 0 2 c", "round", "core", "rounds", "way 0 1", "walk 0 0 3", "close 1 0",
                 "way 0 1", "show", "way 0 3")
        printed = ("['none', '0 1 2', 'ok', '0 1 2', '0 1 2', '1', '0 1', 'yes', 'ok', '0 2 1', '3: 0-2c 1-2b', "
                   "'InvalidPlace']")
        self.assertEqual(repr([console.say(line) for line in lines]), printed)
        check_given(self, InvalidLine, "paint 0 1 g", console.say, "paint 0 1 g")


if __name__ == "__main__":
    unittest.main()
