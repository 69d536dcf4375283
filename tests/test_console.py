"""Promise 8 of consoles: the answers to all lines, and what is no line."""

import itertools
import random
import unittest

from hueturns.console import Console
from hueturns.errors import InvalidLine, NotANet
from hueturns.nets import Net
from tests.plain_search import all_nets, all_rounds, all_ways, core_of, is_plain_in, stands_after
from tests.samples import (DULL, EMPTY_NINE, FULL, KITE, LONE, NO_INTEGERS, NO_NETS, NO_TUPLES, PATH, SQUARE, THREE,
                           check_given, every_pair, some_net, some_nets)

RIGHT = ("paint 0 1 a", "close 0 1", "swap 0 1", "grow", "drop", "undo", "show", "round", "rounds", "core", "order",
         "way 0 1", "walk 0 1 5")
NO_WORDS = ("", "-1", "+1", "00", "01", "007", "0x1", "1.0", "1e3", "1_0", "a", "A", "one", "0a", "a0", "-0", ",", "0,",
            "\n", "0\n", "\n0", "1:", "None", "True")
NO_HUE_WORDS = ("", "g", "A", "aa", "ab", "z", "0", "1", "a\n", "-", "a,", "abcdef")
NO_LINES = (
    *(value for value in (*NO_INTEGERS, *NO_TUPLES, *NO_NETS, THREE, b"show", ["show"], ("show",))
      if value.__class__ is not str),
    "", " ", "  ", "\n", "show ", " show", "show\n", "\nshow", "Show", "SHOW", "show show", "show 0", "shows", "sho",
    "show\nshow", "grow 1", "grow ", "undo 1", "drop 0", "round 0", "rounds 3", "core 0", "order 1", "redo", "quit", "help",
    "paint", "paint 0", "paint 0 1", "paint 0 1 a b", "paint 0 1 2", "paint a 0 1", "paint 0 a 1", "paint  0 1 a",
    "paint 0  1 a", "paint 0 1  a", " paint 0 1 a", "paint 0 1 a ", "paint 0 1 a\n", "paint\n0 1 a", "paint 0-1 a",
    "paint 0 1a", "paint 01 a", "paint 0,1,a", "Paint 0 1 a", "close", "close 0", "close 0 1 2", "close 0 1 a",
    "close 0  1", "close 0 1 ", "swap", "swap 1", "swap 0 1 2", "swap 0 1\n", "way", "way 0", "way 0 1 2", "way 0 1 a",
    "way  0 1", "walk", "walk 0", "walk 0 1", "walk 0 1 2 3", "walk 0 1 a", "walk 0 1 -1", "walk 0 1 05", "walk 0 1  5",
    "far 0", "apart", "plain 0", "turn 0 3", "read 3:", "3: 0-1a", "0 1", "a", "close 0 1; show",
)


def told(console):
    """What a console tells of itself."""
    return [console.say(line) for line in ("show", "round", "core", "order")]


def in_words(places):
    """Places with single spaces between."""
    return " ".join(str(place) for place in places) if places else "none"


def least_order(net):
    """The order in which always the least plain place is taken off."""
    left, order = list(range(net.size)), []
    while any(is_plain_in(net, place, left) for place in left):
        place = min(each for each in left if is_plain_in(net, each, left))
        left.remove(place)
        order.append(place)
    return order


class TestAsked(unittest.TestCase):
    def check(self, net, numbers=(0, 1, 2, 3, 4, 10 ** 30)):
        console = Console(net)
        with self.subTest(net=str(net)):
            self.assertEqual(console.say("show"), str(net))
            rings = all_rounds(net)
            self.assertEqual(console.say("round"), in_words(rings[0] if rings else ()))
            self.assertEqual(console.say("rounds"), str(len(rings)))
            self.assertEqual(console.say("core"), in_words(core_of(net)))
            self.assertEqual(console.say("order"), in_words(least_order(net)))
            for start, goal in itertools.product(range(net.size), repeat=2):
                ways = all_ways(net, start, goal) if start != goal else ()
                answer = in_words(ways[0] if ways else ()) if start != goal else "InvalidPlace"
                self.assertEqual(console.say(f"way {start} {goal}"), answer)
                for many in numbers:
                    places = [place for place, _ in stands_after(net, [(start, None)], many)]
                    self.assertEqual(console.say(f"walk {start} {goal} {many}"), "yes" if goal in places else "no")
            self.assertEqual([console.say("show"), console.say("undo")], [str(net), "NothingToUndo"])

    def test_small_nets(self):
        for net in (*all_nets(1, "a"), *all_nets(2, "ab"), *all_nets(3, "abc")[::2], *all_nets(4, "ab")[::19]):
            self.check(net)

    def test_documents_nets(self):
        for net in (THREE, DULL, SQUARE, KITE, PATH, FULL):
            self.check(net)

    def test_other_nets(self):
        for net in some_nets(141, 27, "abc"):
            if net.size < 8:
                self.check(net, (0, 5, 10 ** 15))

    def test_eight_and_nine_places(self):
        source = random.Random(142)
        eight, nine = some_net(source, 8, "ab", 0.4), some_net(source, 9, "ab", 0.4)
        self.assertEqual(Console(eight).say("rounds"), str(len(all_rounds(eight))))
        self.assertEqual([Console(nine).say("rounds"), Console(EMPTY_NINE).say("rounds")], ["TooGreat", "TooGreat"])
        around = Console(Net(9, tuple((*pair, "ab"[pair[0] % 2]) for pair in every_pair(9) if pair[1] == pair[0] + 1)))
        self.assertEqual([around.say("paint 8 0 c"), around.say("round"), around.say("rounds"), around.say("order")],
                         ["ok", "0 1 2 3 4 5 6 7 8", "TooGreat", "none"])
        self.assertEqual([around.say("drop"), around.say("rounds"), around.say("order")],
                         ["ok", "0", "0 1 2 3 4 5 6 7"])

    def test_numbers(self):
        console = Console(SQUARE)
        self.assertEqual([console.say(f"walk 0 0 {many}") for many in (10 ** 30, 10 ** 30 - 1, 10 ** 30 + 1, 10 ** 79)],
                         ["yes", "no", "InvalidNumber", "InvalidNumber"])
        self.assertEqual([console.say(line) for line in ("walk 4 0 0", "walk 0 4 0", f"walk 4 0 {10 ** 31}",
                                                         "walk 12 0 1", f"walk 0 {10 ** 70} 1")], ["InvalidPlace"] * 5)
        self.assertEqual([console.say(line) for line in ("way 4 0", "way 0 4", "way 2 2", "way 10 11", "way 0 99")],
                         ["InvalidPlace"] * 5)


class TestChanged(unittest.TestCase):
    def test_answers(self):
        console = Console(net=PATH)
        for line, answer, text in (
                ("paint 3 0 c", "ok", "4: 0-1a 0-3c 1-2a 2-3b"), ("paint 0 4 c", "InvalidPlace", None),
                ("paint 2 2 c", "InvalidPlace", None), ("paint 12 0 c", "InvalidPlace", None),
                ("close 0 2", "NoRoad", None), ("close 0 0", "InvalidPlace", None), ("close 0 9", "InvalidPlace", None),
                ("close 1 0", "ok", "4: 0-3c 1-2a 2-3b"), ("swap 1 1", "InvalidPlace", None),
                ("swap 4 0", "InvalidPlace", None), ("swap 0 1", "ok", "4: 0-2a 1-3c 2-3b"),
                ("grow", "ok", "5: 0-2a 1-3c 2-3b"), ("drop", "ok", "4: 0-2a 1-3c 2-3b"), ("drop", "ok", "3: 0-2a"),
                ("undo", "ok", "4: 0-2a 1-3c 2-3b"), ("undo", "ok", "5: 0-2a 1-3c 2-3b"), ("undo", "ok", None),
                ("undo", "ok", "4: 0-3c 1-2a 2-3b"), ("undo", "ok", None), ("undo", "ok", str(PATH)),
                ("undo", "NothingToUndo", None)):
            before = console.say("show")
            with self.subTest(line=line):
                self.assertEqual(console.say(line=line), answer)
                if text or answer != "ok":
                    self.assertEqual(console.say("show"), text or before)

    def test_nine_places_and_one(self):
        console = Console(EMPTY_NINE)
        self.assertEqual([console.say("grow"), console.say("undo")], ["TooGreat", "NothingToUndo"])
        for size in range(8, 0, -1):
            self.assertEqual([console.say("drop"), console.say("show")], ["ok", f"{size}:"])
        self.assertEqual([console.say("drop"), console.say("show"), console.say("undo")], ["TooGreat", "1:", "ok"])

    def test_two_consoles(self):
        console, other = Console(DULL), Console(DULL)
        console.say("paint 0 2 c")
        self.assertEqual([told(console), told(other)], [told(Console(THREE)), told(Console(DULL))])
        self.assertEqual([other.say("undo"), console.say("undo")], ["NothingToUndo", "ok"])
        self.assertEqual(str(DULL), "3: 0-1a 0-2a 1-2b")

    def test_answers_are_strings(self):
        console = Console(KITE)
        for line in RIGHT:
            self.assertIs(console.say(line).__class__, str)

    def test_all_hues(self):
        console = Console(THREE)
        for hue in "abcdef":
            self.assertEqual([console.say(f"paint 2 1 {hue}"), console.say("show")], ["ok", f"3: 0-1a 0-2c 1-2{hue}"])


class TestWrong(unittest.TestCase):
    def test_no_net(self):
        for value in NO_NETS:
            check_given(self, NotANet, value, Console, value)
            check_given(self, NotANet, value, Console, net=value)

    def check(self, lines):
        console = Console(THREE)
        console.say("paint 0 1 d")
        before = told(console)
        for line in lines:
            with self.subTest(line=line):
                check_given(self, InvalidLine, line, console.say, line)
                check_given(self, InvalidLine, line, console.say, line=line)
        self.assertEqual(told(console), before)
        self.assertEqual([console.say("undo"), console.say("undo")], ["ok", "NothingToUndo"])

    def test_no_lines(self):
        self.check(NO_LINES)

    def test_words_in_the_place_of_integers(self):
        self.check([line for word in NO_WORDS for line in (
            f"paint {word} 1 a", f"paint 0 {word} a", f"close {word} 1", f"close 0 {word}", f"swap {word} 1",
            f"swap 0 {word}", f"way {word} 1", f"way 0 {word}", f"walk {word} 1 2", f"walk 0 {word} 2",
            f"walk 0 1 {word}")])

    def test_words_in_the_place_of_hues(self):
        self.check([f"paint 0 1 {word}" for word in NO_HUE_WORDS])

    def test_spaces_and_newlines(self):
        self.check([wrong for line in RIGHT for wrong in (
            line + " ", " " + line, line + "\n", "\n" + line, line.replace(" ", "  ", 1) + "  ", line.upper(),
            line.title(), line + " 0 0 0 0", line.replace(" ", "\n") + "\n", line + ".", line * 2)])

    def test_long_lines(self):
        self.check(["a" * 4000, " " * 4000, "show " * 800, "walk 0 1 " + "0" * 3990, "round" * 800])


class TestAlone(unittest.TestCase):
    def test_a_console_equals_itself_alone(self):
        console = Console(THREE)
        self.assertEqual([console == console, console != console, console == Console(THREE), console != Console(THREE),
                          bool(console), Console(LONE) == console], [True, False, False, True, True, False])
        self.assertNotIn(console, (THREE, str(THREE), None, 0, ()))


if __name__ == "__main__":
    unittest.main()
