"""The examples of the document, with what they print."""

import unittest

from hueturns.errors import InvalidText
from hueturns.nets import Net, alike
from tests.samples import DULL, FULL, KITE, PATH, THREE, check_given


class TestNets(unittest.TestCase):
    def test_listed(self):
        found = [THREE.roads, THREE.hue(2, 0), PATH.hue(0, 3), KITE.roads_at(3), KITE.pieces((0, 2, 4)),
                 KITE.pieces((0, 1, 3, 4)), str(DULL.painted(2, 0, "c")), str(PATH.closed(1, 2)),
                 str(PATH.swapped(0, 3)), len(FULL), repr(FULL), alike(DULL, Net.read("3: 0-1d 0-2f 1-2d")),
                 alike(DULL, THREE)]
        printed = ("[((0, 1, 'a'), (0, 2, 'c'), (1, 2, 'b')), 'c', None, ((0, 'b'), (2, 'a'), (4, 'a')), "
                   "((0,), (2,), (4,)), ((0, 1, 3, 4),), '3: 0-1a 0-2c 1-2b', '4: 0-1a 2-3b', "
                   "'4: 0-2b 1-2a 1-3a', 6, 'Net of 4 places', True, False]")
        self.assertEqual(repr(found), printed)

    def test_wrong_text(self):
        check_given(self, InvalidText, "3: 0-2a 0-1b", Net.read, "3: 0-2a 0-1b")


if __name__ == "__main__":
    unittest.main()
