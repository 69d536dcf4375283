"""Promise 2 of nets: what a net tells of itself, and which nets are equal."""

import unittest

from hueturns import nets
from hueturns.nets import Net
from tests.samples import DULL, EMPTY_NINE, KITE, LONE, PATH, THREE, every_pair, some_nets

ALL_TEXTS = ("1:", "2:", "2: 0-1a", "2: 0-1f", "9:", "9: 7-8f", "9: 0-1a 0-8f 7-8c", "3: 0-1a 0-2c 1-2b")


def text_of(net):
    """The text, put together in another way than the package does."""
    return f"{net.size}:" + "".join(f" {low}-{high}{hue}" for low, high, hue in net.roads)


class TestTold(unittest.TestCase):
    def test_what_it_is_made_with(self):
        roads = ((0, 1, "a"), (0, 8, "f"), (7, 8, "c"))
        for net in (Net(9, roads), Net(size=9, roads=roads), Net(roads=roads, size=9)):
            self.assertEqual((net.size, net.roads, len(net)), (9, roads, 3))
            self.assertEqual((net.size.__class__, net.roads.__class__), (int, tuple))
            self.assertEqual(str(net), "9: 0-1a 0-8f 7-8c")

    def test_all_sizes_without_roads(self):
        for size in range(1, 10):
            net = Net(size, ())
            with self.subTest(size=size):
                self.assertEqual((net.size, net.roads, len(net)), (size, (), 0))
                self.assertEqual((str(net), repr(net)), (f"{size}:", f"Net of {size} places"))

    def test_all_roads_there_can_be(self):
        roads = tuple((low, high, "abcdef"[(low + high) % 6]) for low, high in every_pair(9))
        net = Net(9, roads)
        self.assertEqual((len(net), net.roads, str(net)), (36, roads, text_of(net)))

    def test_repr(self):
        self.assertEqual([repr(LONE), repr(THREE), repr(EMPTY_NINE)],
                         ["Net of 1 places", "Net of 3 places", "Net of 9 places"])

    def test_always_true(self):
        for net in (LONE, EMPTY_NINE, THREE, DULL.closed(0, 1)):
            self.assertIs(bool(net), True)

    def test_not_to_be_changed(self):
        for name in ("size", "roads"):
            with self.assertRaises(AttributeError):
                setattr(THREE, name, 1)

    def test_it_stands_in_its_file_with_all_its_methods(self):
        self.assertEqual((Net.__module__, nets.alike.__module__), ("hueturns.nets", "hueturns.nets"))
        listed = ("__init__", "read", "size", "roads", "hue", "roads_at", "pieces", "painted", "closed", "swapped",
                  "__len__", "__str__", "__repr__", "__eq__", "__bool__")
        self.assertEqual([name for name in listed if name not in vars(Net)], [])
        self.assertIsInstance(vars(Net)["read"], staticmethod)
        self.assertEqual(THREE.read("1:"), LONE)


class TestText(unittest.TestCase):
    def test_read_again(self):
        for net in (*some_nets(1, 90), LONE, EMPTY_NINE):
            text = str(net)
            with self.subTest(text=text):
                self.assertEqual(text, text_of(net))
                again = Net.read(text)
                self.assertEqual(again, net)
                self.assertEqual((again.size, again.roads, str(again)), (net.size, net.roads, text))
                self.assertEqual(Net.read(text=text), net)


class TestHues(unittest.TestCase):
    def test_hue_both_ways_and_none(self):
        self.assertEqual([THREE.hue(0, 1), THREE.hue(1, 0), THREE.hue(1, 2), THREE.hue(2, 1)], list("aabb"))
        self.assertEqual([PATH.hue(0, 2), PATH.hue(3, 0), PATH.hue(1, 1), LONE.hue(0, 0)], [None] * 4)
        self.assertEqual([THREE.hue(one=2, two=0), THREE.hue(two=1, one=2)], ["c", "b"])
        self.assertEqual([Net.read("9: 0-8f").hue(8, 0), Net.read("9: 0-8f").hue(8, 8)], ["f", None])

    def test_roads_at(self):
        self.assertEqual(KITE.roads_at(3), ((0, "b"), (2, "a"), (4, "a")))
        self.assertEqual([KITE.roads_at(0), KITE.roads_at(place=4)], [((1, "a"), (3, "b")), ((3, "a"),)])
        self.assertEqual([LONE.roads_at(0), EMPTY_NINE.roads_at(8)], [(), ()])

    def test_they_follow_the_roads(self):
        for net in some_nets(2, 45):
            with self.subTest(net=str(net)):
                for one in range(net.size):
                    at = []
                    for two in range(net.size):
                        hues = [hue for low, high, hue in net.roads if {low, high} == {one, two}]
                        self.assertEqual(net.hue(one, two), hues[0] if hues else None)
                        at.extend((two, hue) for hue in hues)
                    self.assertEqual(net.roads_at(one), tuple(at))


class TestEqual(unittest.TestCase):
    def test_equal_just_if_their_texts_are(self):
        for one in ALL_TEXTS:
            for two in ALL_TEXTS:
                with self.subTest(one=one, two=two):
                    self.assertIs(Net.read(one) == Net.read(two), one == two)
                    self.assertIs(Net.read(one) != Net.read(two), one != two)

    def test_near_ones_are_not_equal(self):
        for net in some_nets(3, 27):
            near = [Net(net.size % 9 + 1, ()) if not net.roads else net.closed(*net.roads[0][:2])]
            if net.size > 1:
                near.append(net.painted(0, 1, "b" if net.hue(0, 1) == "a" else "a"))
            if net.size < 9:
                near.append(Net(net.size + 1, net.roads))
            for other in near:
                with self.subTest(net=str(net), other=str(other)):
                    self.assertNotEqual(str(net), str(other))
                    self.assertFalse(net == other)
                    self.assertTrue(net != other)

    def test_equal_however_they_are_made(self):
        self.assertTrue(DULL == Net.read("3: 0-1a 0-2a 1-2b"))
        self.assertFalse(DULL != Net.read("3: 0-1a 0-2a 1-2b"))
        self.assertTrue(THREE == THREE.painted(0, 2, "a").painted(0, 2, "c"))
        self.assertTrue(THREE == THREE)

    def test_never_equal_to_other_values(self):
        for value in (None, True, False, 0, 3, str(THREE), repr(THREE), THREE.roads, (3, THREE.roads), [], {}, Net,
                      object()):
            with self.subTest(value=value):
                self.assertIs(THREE == value, False)
                self.assertIs(value == THREE, False)
                self.assertIs(THREE != value, True)
                self.assertIs(value != THREE, True)


if __name__ == "__main__":
    unittest.main()
