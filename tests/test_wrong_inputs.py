"""Promise 4 of nets: which error is raised, with what it keeps, and which one goes first."""

import unittest

from hueturns.errors import (InvalidHue, InvalidNumber, InvalidPlace, InvalidPlaces, InvalidRoads, NoRoad, NotANet,
                             TooGreat)
from hueturns.nets import Net, alike
from tests.samples import (EMPTY_NINE, LONE, NO_HUES, NO_INTEGERS, NO_TUPLES, PATH, THREE, check_given, check_index,
                           raised)

NO_PLACES_OF_FOUR = (*NO_INTEGERS, -1, 4, 5, 9, 10 ** 30, -(10 ** 30))

# Elements that are no roads of a net of four places.
NO_ROADS = (
    None, True, 0, "", "0-1a", "01a", [], [0, 1, "a"], {}, object(), THREE,
    (), (0,), (0, 1), (0, 1, "a", "b"), (0, 1, "a", None), ((0, 1), "a"), ((0, 1, "a"),),
    (1, 0, "a"), (0, 0, "a"), (3, 3, "f"), (-1, 0, "a"), (0, 4, "a"), (3, 4, "a"), (4, 5, "a"), (0, 9, "a"),
    (False, 1, "a"), (0, True, "a"), (False, True, "a"), ("0", 1, "a"), (0, "1", "a"), (None, 1, "a"), (0, None, "a"),
    ([0], 1, "a"), (0, (1,), "a"), (0, "a", 1), ("a", 0, 1), (0, 1, 2),
) + tuple((0, 1, hue) for hue in NO_HUES)


class TestNet(unittest.TestCase):
    def test_size(self):
        for size in (*NO_INTEGERS, 0, -1, 10, 11, 10 ** 30, -(10 ** 30)):
            with self.subTest(size=size):
                check_given(self, InvalidNumber, size, Net, size, ())
                check_given(self, InvalidNumber, size, Net, size=size, roads=())

    def test_size_goes_ahead_of_roads(self):
        for roads in (None, [], (None,), ((0, 1, "a"), (0, 1, "a"))):
            check_given(self, InvalidNumber, 10, Net, 10, roads)
            check_given(self, InvalidNumber, True, Net, roads=roads, size=True)

    def test_no_tuple(self):
        for roads in (*NO_TUPLES, [(0, 1, "a"), (0, 2, "b")]):
            with self.subTest(roads=roads):
                check_index(self, InvalidRoads, None, Net, 4, roads)
                check_index(self, InvalidRoads, None, Net, size=4, roads=roads)

    def test_elements_that_are_no_roads(self):
        for road in NO_ROADS:
            with self.subTest(road=road):
                check_index(self, InvalidRoads, 0, Net, 4, (road,))
                check_index(self, InvalidRoads, 0, Net, 4, (road, (0, 1, "a")))
                check_index(self, InvalidRoads, 0, Net, size=4, roads=(road, road))
                check_index(self, InvalidRoads, 1, Net, 4, ((0, 1, "a"), road, (2, 3, "b")))
                check_index(self, InvalidRoads, 2, Net, 4, ((0, 1, "a"), (0, 2, "b"), road))

    def test_order_of_elements(self):
        for index, roads in (
                (1, ((0, 1, "a"), (0, 1, "a"))), (1, ((0, 1, "a"), (0, 1, "b"))), (1, ((0, 1, "b"), (0, 1, "a"))),
                (1, ((0, 2, "a"), (0, 1, "b"))), (1, ((1, 2, "a"), (0, 3, "b"))),
                (2, ((0, 1, "a"), (1, 2, "b"), (0, 2, "c"))), (2, ((0, 1, "a"), (2, 3, "b"), (2, 3, "c"), None)),
                (1, ((0, 2, "a"), (0, 1, "b"), None)), (1, ((0, 1, "a"), None, (0, 1, "a")))):
            with self.subTest(roads=roads):
                check_index(self, InvalidRoads, index, Net, 4, roads)

    def test_roads_of_other_sizes(self):
        check_index(self, InvalidRoads, 0, Net, 1, ((0, 1, "a"),))
        check_index(self, InvalidRoads, 1, Net, 3, ((0, 1, "a"), (0, 3, "a")))
        check_index(self, InvalidRoads, 0, Net, 9, ((8, 9, "a"),))
        self.assertEqual(len(Net(9, ((0, 8, "a"), (7, 8, "f")))), 2)


class TestPlaces(unittest.TestCase):
    def test_hue(self):
        for place in NO_PLACES_OF_FOUR:
            with self.subTest(place=place):
                check_given(self, InvalidPlace, place, PATH.hue, place, 0)
                check_given(self, InvalidPlace, place, PATH.hue, 0, place)
                check_given(self, InvalidPlace, place, PATH.hue, two=place, one=3)
                check_given(self, InvalidPlace, place, PATH.hue, place, 4)
        check_given(self, InvalidPlace, 9, EMPTY_NINE.hue, 8, 9)
        check_given(self, InvalidPlace, 1, LONE.hue, 0, 1)

    def test_roads_at(self):
        for place in NO_PLACES_OF_FOUR:
            with self.subTest(place=place):
                check_given(self, InvalidPlace, place, PATH.roads_at, place)
                check_given(self, InvalidPlace, place, PATH.roads_at, place=place)
        check_given(self, InvalidPlace, 1, LONE.roads_at, 1)

    def test_two_different_places(self):
        for call, more in ((PATH.painted, ("a",)), (PATH.closed, ()), (PATH.swapped, ())):
            for place in NO_PLACES_OF_FOUR:
                with self.subTest(call=call, place=place):
                    check_given(self, InvalidPlace, place, call, place, 0, *more)
                    check_given(self, InvalidPlace, place, call, 3, place, *more)
                    check_given(self, InvalidPlace, place, call, place, -2, *more)
                    check_given(self, InvalidPlace, place, call, place, place, *more)
            for place in range(4):
                check_given(self, InvalidPlace, place, call, place, place, *more)
        check_given(self, InvalidPlace, 4, PATH.painted, hue="a", two=4, one=0)
        check_given(self, InvalidPlace, 4, PATH.painted, hue="a", two=5, one=4)
        check_given(self, InvalidPlace, 2, PATH.closed, two=2, one=2)
        check_given(self, InvalidPlace, 4, PATH.swapped, two=0, one=4)

    def test_one_place_alone_has_no_other(self):
        check_given(self, InvalidPlace, 0, LONE.painted, 0, 0, "a")
        check_given(self, InvalidPlace, 0, LONE.closed, 0, 0)
        check_given(self, InvalidPlace, 0, LONE.swapped, 0, 0)

    def test_hues(self):
        for hue in NO_HUES:
            with self.subTest(hue=hue):
                check_given(self, InvalidHue, hue, PATH.painted, 0, 1, hue)
                check_given(self, InvalidHue, hue, PATH.painted, one=3, two=0, hue=hue)
                check_given(self, InvalidPlace, 4, PATH.painted, 4, 0, hue)
                check_given(self, InvalidPlace, 4, PATH.painted, 0, 4, hue)
                check_given(self, InvalidPlace, 2, PATH.painted, 2, 2, hue)

    def test_no_road_comes_last(self):
        for one, two in ((0, 2), (2, 0), (0, 3), (3, 1)):
            self.assertEqual(vars(raised(self, NoRoad, PATH.closed, one, two)), {})
            raised(self, NoRoad, PATH.closed, two=two, one=one)
        check_given(self, InvalidPlace, 4, PATH.closed, 0, 4)
        check_given(self, InvalidPlace, 0, PATH.closed, 0, 0)


class TestPieces(unittest.TestCase):
    def test_no_tuple(self):
        for places in NO_TUPLES:
            with self.subTest(places=places):
                check_index(self, InvalidPlaces, None, PATH.pieces, places)
                check_index(self, InvalidPlaces, None, PATH.pieces, places=places)

    def test_elements(self):
        for place in NO_PLACES_OF_FOUR:
            with self.subTest(place=place):
                check_index(self, InvalidPlaces, 0, PATH.pieces, (place,))
                check_index(self, InvalidPlaces, 0, PATH.pieces, (place, place))
                check_index(self, InvalidPlaces, 1, PATH.pieces, (0, place, 0))
                check_index(self, InvalidPlaces, 2, PATH.pieces, places=(0, 3, place))

    def test_order(self):
        for index, places in ((1, (0, 0)), (1, (1, 0)), (2, (0, 1, 1)), (2, (0, 2, 1)), (2, (0, 3, 0, None)),
                              (1, (2, 1, 3)), (4, (0, 1, 2, 3, 3))):
            with self.subTest(places=places):
                check_index(self, InvalidPlaces, index, PATH.pieces, places)


class TestAlike(unittest.TestCase):
    def test_no_nets(self):
        for value in (*NO_INTEGERS, *NO_TUPLES, 3, str(THREE), THREE.roads, Net):
            if not isinstance(value, Net):
                with self.subTest(value=value):
                    check_given(self, NotANet, value, alike, value, THREE)
                    check_given(self, NotANet, value, alike, THREE, value)
                    check_given(self, NotANet, value, alike, value, None)
                    check_given(self, NotANet, value, alike, other=value, net=THREE)
                    check_given(self, NotANet, value, alike, other=0, net=value)

    def test_too_great_comes_last(self):
        eight = Net(8, ((0, 7, "a"),))
        check_given(self, NotANet, None, alike, eight, None)
        check_given(self, NotANet, None, alike, None, eight)

    def test_too_great(self):
        sizes = {size: Net(size, ()) for size in range(1, 10)}
        for one in range(1, 10):
            for two in range(1, 10):
                great = [size for size in (one, two) if size > 7]
                with self.subTest(one=one, two=two):
                    if great:
                        check_given(self, TooGreat, great[0], alike, sizes[one], sizes[two])
                        check_given(self, TooGreat, great[0], alike, other=sizes[two], net=sizes[one])
                    else:
                        self.assertIs(alike(sizes[one], sizes[two]), one == two)


if __name__ == "__main__":
    unittest.main()
