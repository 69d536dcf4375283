"""Promises 7 to 9 of desks: what is changed, what is taken back, trials, and the errors."""

import random
import unittest

from hueturns.cores import core
from hueturns.desks import Desk
from hueturns.errors import InvalidHue, InvalidPlace, NoRoad, NotANet, NothingToUndo, TooGreat
from hueturns.nets import Net
from tests.plain_search import core_of
from tests.samples import (DULL, EMPTY_NINE, FULL, KITE, LONE, NO_HUES, NO_INTEGERS, NO_NETS, PATH, SQUARE, THREE,
                           check_given, every_pair, raised, some_net)

NO_PLACES_OF_FIVE = (*NO_INTEGERS, -1, 5, 6, 9, 10 ** 30, -(10 ** 30))


class Stopped(Exception):
    """What is raised within trials here."""


def look(desk):
    """All that a desk tells of itself."""
    return (str(desk.net), desk.core, desk.changes)


def unwound(desk):
    """The texts of all nets that were at a desk, taken back one by one."""
    texts = [str(desk.net)]
    while desk.changes:
        desk.undo()
        texts.append(str(desk.net))
    return texts


def with_number(net, one, two):
    """The net in which two places have changed their numbers, by a table of all numbers."""
    numbers = list(range(net.size))
    numbers[one], numbers[two] = two, one
    roads = [(*sorted((numbers[low], numbers[high])), hue) for low, high, hue in net.roads]
    return Net(net.size, tuple(sorted(roads)))


def some_change(source, net):
    """A change that a random source chooses: its name, its arguments, and the net behind it (None for an error)."""
    word = source.choice(("paint", "paint", "paint", "close", "grow", "drop", "swap"))
    roads = {road[:2]: road[2] for road in net.roads}
    if word == "grow":
        return word, (), Net(net.size + 1, net.roads) if net.size < 9 else None
    if word == "drop":
        left = tuple(road for road in net.roads if net.size - 1 not in road[:2])
        return word, (), Net(net.size - 1, left) if net.size > 1 else None
    one, two = source.randrange(net.size), source.randrange(net.size)
    pair = (min(one, two), max(one, two))
    if word == "swap":
        return word, (one, two), with_number(net, one, two) if one != two else None
    if word == "close":
        left = tuple((*each, hue) for each, hue in sorted(roads.items()) if each != pair)
        return word, (one, two), Net(net.size, left) if pair in roads else None
    hue = source.choice("abc")
    painted = tuple((*each, colour) for each, colour in sorted({**roads, pair: hue}.items()))
    return word, (one, two, hue), Net(net.size, painted) if one != two else None


class TestChanges(unittest.TestCase):
    def test_made(self):
        for net in (LONE, DULL, KITE, EMPTY_NINE):
            for desk in (Desk(net), Desk(net=net)):
                self.assertEqual([desk.net, desk.core, desk.changes], [net, core(net), 0])

    def test_paint(self):
        desk = Desk(DULL)
        self.assertIsNone(desk.paint(2, 0, "c"))
        self.assertEqual(look(desk), ("3: 0-1a 0-2c 1-2b", (0, 1, 2), 1))
        self.assertIsNone(desk.paint(hue="f", two=1, one=0))
        self.assertEqual(look(desk), ("3: 0-1f 0-2c 1-2b", (0, 1, 2), 2))
        other = Desk(PATH)
        other.paint(3, 0, "a")
        self.assertEqual(look(other), ("4: 0-1a 0-3a 1-2a 2-3b", (), 1))

    def test_close(self):
        desk = Desk(THREE)
        self.assertIsNone(desk.close(1, 0))
        self.assertEqual(look(desk), ("3: 0-2c 1-2b", (), 1))
        self.assertIsNone(desk.close(two=2, one=1))
        self.assertEqual(look(desk), ("3: 0-2c", (), 2))

    def test_grow_and_drop(self):
        desk = Desk(THREE)
        self.assertIsNone(desk.grow())
        self.assertEqual(look(desk), ("4: 0-1a 0-2c 1-2b", (0, 1, 2), 1))
        self.assertIsNone(desk.drop())
        self.assertIsNone(desk.drop())
        self.assertEqual(look(desk), ("2: 0-1a", (), 3))
        desk.drop()
        self.assertEqual(look(desk), ("1:", (), 4))

    def test_swap(self):
        desk = Desk(PATH)
        self.assertIsNone(desk.swap(0, 3))
        self.assertEqual(look(desk), ("4: 0-2b 1-2a 1-3a", (), 1))
        self.assertIsNone(desk.swap(two=0, one=3))
        self.assertEqual(look(desk), (str(PATH), (), 2))

    def test_undo_one_after_the_other(self):
        desk = Desk(DULL)
        desk.paint(0, 2, "c")
        desk.grow()
        desk.swap(3, 0)
        self.assertEqual(look(desk), ("4: 1-2b 1-3a 2-3c", (1, 2, 3), 3))
        self.assertIsNone(desk.undo())
        self.assertEqual(look(desk), ("4: 0-1a 0-2c 1-2b", (0, 1, 2), 2))
        desk.undo()
        desk.undo()
        self.assertEqual(look(desk), (str(DULL), (), 0))
        raised(self, NothingToUndo, desk.undo)
        desk.close(0, 1)
        self.assertEqual(look(desk), ("3: 0-2a 1-2b", (), 1))

    def test_changes_that_leave_all_as_it_was(self):
        desk = Desk(THREE)
        desk.paint(0, 1, "a")
        desk.paint(1, 0, "a")
        self.assertEqual(look(desk), (str(THREE), (0, 1, 2), 2))
        same = Desk(Net(3, ()))
        same.swap(0, 2)
        self.assertEqual([same.changes, same.undo(), same.changes], [1, None, 0])
        raised(self, NothingToUndo, same.undo)

    def test_the_net_that_was_passed_stays_as_it_is(self):
        net = Net.read(str(KITE))
        desk, other = Desk(net), Desk(net)
        desk.drop()
        desk.paint(0, 2, "f")
        self.assertEqual([str(net), str(other.net), other.changes], [str(KITE), str(KITE), 0])
        before = desk.net
        desk.paint(0, 2, "e")
        self.assertEqual([before.hue(0, 2), desk.net.hue(0, 2)], ["f", "e"])

    def test_long_ways(self):
        source = random.Random(101)
        for size in (1, 2, 3, 5, 8, 9):
            for _ in range(4):
                self.check_long_way(source, some_net(source, size, "abc", 0.5))

    def check_long_way(self, source, net):
        desk, known = Desk(net), [net]
        for _ in range(60):
            if source.random() < 0.2 and len(known) > 1:
                known.pop()
                self.assertIsNone(desk.undo())
            else:
                word, values, behind = some_change(source, known[-1])
                if behind is None:
                    self.assertRaises((InvalidPlace, NoRoad, TooGreat), getattr(desk, word), *values)
                else:
                    known.append(behind)
                    self.assertIsNone(getattr(desk, word)(*values))
            self.assertEqual(look(desk), (str(known[-1]), core_of(known[-1]), len(known) - 1))
        self.assertEqual(unwound(desk), [str(each) for each in reversed(known)])


class TestErrors(unittest.TestCase):
    def unchanged(self, desk, check, *args, **named):
        before = look(desk)
        check(self, *args, **named)
        self.assertEqual(look(desk), before)

    def test_no_net(self):
        for value in NO_NETS:
            check_given(self, NotANet, value, Desk, value)
            check_given(self, NotANet, value, Desk, net=value)

    def test_places(self):
        desk = Desk(KITE)
        desk.paint(0, 2, "a")
        for place in NO_PLACES_OF_FIVE:
            for call, more in ((desk.paint, ("a",)), (desk.paint, ("g",)), (desk.close, ()), (desk.swap, ())):
                with self.subTest(call=call.__name__, place=place):
                    self.unchanged(desk, check_given, InvalidPlace, place, call, place, 1, *more)
                    self.unchanged(desk, check_given, InvalidPlace, place, call, 1, place, *more)
                    self.unchanged(desk, check_given, InvalidPlace, place, call, place, [], *more)
            check_given(self, InvalidPlace, place, desk.paint, hue=None, two=0, one=place)
            check_given(self, InvalidPlace, place, desk.close, two=place, one=0)
            check_given(self, InvalidPlace, place, desk.swap, two=place, one=0)

    def test_the_same_place_twice(self):
        desk = Desk(KITE)
        for place in range(5):
            self.unchanged(desk, check_given, InvalidPlace, place, desk.paint, place, place, "g")
            self.unchanged(desk, check_given, InvalidPlace, place, desk.close, place, place)
            self.unchanged(desk, check_given, InvalidPlace, place, desk.swap, place, place)

    def test_hues(self):
        desk = Desk(KITE)
        for hue in NO_HUES:
            self.unchanged(desk, check_given, InvalidHue, hue, desk.paint, 0, 1, hue)
            self.unchanged(desk, check_given, InvalidHue, hue, desk.paint, hue=hue, one=0, two=4)

    def test_no_road(self):
        desk = Desk(PATH)
        for one, two in ((0, 2), (2, 0), (0, 3), (3, 1)):
            self.unchanged(desk, raised, NoRoad, desk.close, one, two)
            self.assertEqual(vars(raised(self, NoRoad, desk.close, two=two, one=one)), {})

    def test_nine_places_and_one(self):
        desk = Desk(EMPTY_NINE)
        self.unchanged(desk, check_given, TooGreat, 10, desk.grow)
        desk.drop()
        desk.grow()
        self.unchanged(desk, check_given, TooGreat, 10, desk.grow)
        lone = Desk(LONE)
        self.unchanged(lone, check_given, TooGreat, 0, lone.drop)
        for _ in range(8):
            lone.grow()
        self.unchanged(lone, check_given, TooGreat, 10, lone.grow)
        self.assertEqual(lone.changes, 8)

    def test_nothing_to_undo(self):
        desk = Desk(THREE)
        self.unchanged(desk, raised, NothingToUndo, desk.undo)
        raised(self, NoRoad, Desk(PATH).close, 0, 2)
        raised(self, InvalidPlace, desk.paint, 0, 0, "a")
        self.assertEqual(vars(raised(self, NothingToUndo, desk.undo)), {})

    def test_places_as_they_are_now(self):
        desk = Desk(LONE)
        self.unchanged(desk, check_given, InvalidPlace, 1, desk.paint, 0, 1, "a")
        desk.grow()
        desk.paint(0, 1, "a")
        desk.undo()
        desk.undo()
        self.unchanged(desk, check_given, InvalidPlace, 1, desk.swap, 0, 1)

    def test_what_is_right_is_not_refused(self):
        nine = Desk(EMPTY_NINE)
        for low, high in every_pair(9):
            for hue in "abcdef":
                nine.paint(high, low, hue)
            nine.swap(low, high)
            nine.swap(high, low)
            self.assertEqual(nine.net.hue(low, high), "f")
        for low, high in every_pair(9):
            nine.close(low, high)
        self.assertEqual([str(nine.net), nine.changes], ["9:", 36 * 9])


class TestTrials(unittest.TestCase):
    def desk(self):
        desk = Desk(DULL)
        desk.paint(0, 2, "c")
        desk.grow()
        return desk

    def check_as_begun(self, desk):
        self.assertEqual(look(desk), ("4: 0-1a 0-2c 1-2b", (0, 1, 2), 2))
        self.assertEqual(unwound(desk), ["4: 0-1a 0-2c 1-2b", "3: 0-1a 0-2c 1-2b", str(DULL)])

    def test_as_it_was(self):
        desk = self.desk()
        with desk.trial() as same:
            self.assertIs(same, desk)
            desk.close(0, 1)
            desk.drop()
            self.assertEqual(look(desk), ("3: 0-2c 1-2b", (), 4))
        self.check_as_begun(desk)

    def test_nothing_done(self):
        desk = self.desk()
        with desk.trial():
            pass
        self.check_as_begun(desk)

    def test_more_taken_back_than_was_done(self):
        desk = self.desk()
        with desk.trial():
            desk.swap(0, 1)
            while desk.changes:
                desk.undo()
            raised(self, NothingToUndo, desk.undo)
            desk.paint(0, 1, "f")
        self.check_as_begun(desk)

    def test_ended_by_an_exception(self):
        desk = self.desk()
        for error in (Stopped, KeyError, KeyboardInterrupt):
            with self.assertRaises(error):
                with desk.trial():
                    desk.undo()
                    desk.paint(0, 1, "e")
                    raise error
        with self.assertRaises(NoRoad):
            with desk.trial() as same:
                same.drop()
                same.close(0, 1)
                same.close(0, 1)
        self.check_as_begun(desk)

    def test_ended_by_a_return_and_by_a_break(self):
        desk = self.desk()

        def returned():
            with desk.trial():
                desk.drop()
                return desk.changes

        self.assertEqual(returned(), 3)
        for _ in range(3):
            with desk.trial():
                desk.undo()
                break
        self.check_as_begun(desk)

    def test_one_trial_entered_several_times(self):
        desk = self.desk()
        trial = desk.trial()
        for hue in "abc":
            with trial as same:
                self.assertIs(same, desk)
                desk.paint(0, 3, hue)
                self.assertEqual(desk.changes, 3)
        desk.swap(0, 3)
        with trial:
            desk.undo()
            desk.undo()
        self.assertEqual([str(desk.net), desk.changes], ["4: 1-2b 1-3a 2-3c", 3])
        desk.undo()
        self.check_as_begun(desk)

    def test_one_trial_entered_within_itself(self):
        desk = self.desk()
        trial = desk.trial()
        with trial:
            desk.paint(0, 3, "a")
            inner = look(desk)
            with trial as same:
                self.assertIs(same, desk)
                desk.undo()
                desk.undo()
                with trial:
                    desk.undo()
                    self.assertEqual(look(desk), (str(DULL), (), 0))
                self.assertEqual(desk.changes, 1)
            self.assertEqual(look(desk), inner)
            with self.assertRaises(Stopped):
                with trial:
                    desk.drop()
                    raise Stopped
            self.assertEqual(look(desk), inner)
        self.check_as_begun(desk)

    def test_several_trials(self):
        desk, other = self.desk(), self.desk()
        with desk.trial(), other.trial():
            desk.drop()
            with desk.trial():
                desk.drop()
                self.assertEqual(desk.net.size, 2)
            self.assertEqual([desk.net.size, other.net.size], [3, 4])
        self.check_as_begun(desk)
        self.check_as_begun(other)

    def test_changes_behind_a_trial(self):
        desk = self.desk()
        with desk.trial():
            desk.drop()
        desk.paint(0, 3, "b")
        desk.paint(1, 3, "b")
        self.assertEqual([len(desk.net), desk.changes], [5, 4])
        desk.undo()
        desk.undo()
        self.check_as_begun(desk)

    def test_trials_equal_themselves_alone(self):
        desk = self.desk()
        trial = desk.trial()
        self.assertEqual([trial == trial, trial != trial, trial == desk.trial(), trial != desk.trial(), bool(trial)],
                         [True, False, False, True, True])
        self.assertNotIn(trial, (desk, None, 0, (), "", THREE))


class TestTried(unittest.TestCase):
    def test_called_with_the_desk(self):
        desk = Desk(DULL)
        heard = []
        self.assertEqual(desk.tried(lambda same: heard.append(same) or (same.grow(), same.net.size)), (None, 4))
        self.assertEqual([len(heard), heard[0] is desk, look(desk)], [1, True, look(Desk(DULL))])
        self.assertIs(desk.tried(action=lambda same: heard), heard)
        self.assertIsNone(desk.tried(Desk.grow))
        self.assertEqual(look(desk), look(Desk(DULL)))

    def test_exceptions_come_out(self):
        desk = Desk(FULL)
        desk.grow()
        what = Stopped(5)

        def action(same):
            same.undo()
            same.drop()
            raise what

        with self.assertRaises(Stopped) as caught:
            desk.tried(action)
        self.assertIs(caught.exception, what)
        raised(self, NoRoad, desk.tried, lambda same: same.close(0, 4))
        self.assertEqual(look(desk), ("5: " + str(FULL)[3:], (0, 1, 2, 3), 1))

    def test_within_itself(self):
        desk = Desk(SQUARE)

        def action(same):
            same.grow()
            return (same.tried(lambda again: (again.grow(), again.net.size)[1]), same.net.size)

        self.assertEqual([desk.tried(action), desk.net.size, desk.changes], [(6, 5), 4, 0])


class TestAlone(unittest.TestCase):
    def test_a_desk_equals_itself_alone(self):
        desk = Desk(THREE)
        self.assertEqual([desk == desk, desk != desk, desk == Desk(THREE), desk != Desk(THREE), bool(desk)],
                         [True, False, False, True, True])
        self.assertNotIn(desk, (THREE, str(THREE), None, 0, (), [THREE]))
        self.assertIs(THREE == desk, False)


if __name__ == "__main__":
    unittest.main()
