"""Promise 3 of nets: Net.read takes just the texts of nets."""

import re
import unittest

from hueturns.errors import InvalidText
from hueturns.nets import Net
from tests.samples import NO_INTEGERS, NO_TUPLES, THREE, check_given, some_nets

FORM = re.compile(r"([1-9]):((?: [0-8]-[0-8][a-f])*)", re.ASCII)
CHARACTERS = " \n:-+0129abcdefgAF_.,;"


def is_text(text):
    """Whether this is the text of a net, found in another way than the package does."""
    found = FORM.fullmatch(text)
    if found is None:
        return False
    pairs = [(int(word[0]), int(word[2])) for word in found[2].split()]
    return (all(low < high < int(found[1]) for low, high in pairs)
            and all(one < two for one, two in zip(pairs, pairs[1:])))


def near_texts(text):
    """The text, and all that is a character more, less or other, or two neighbours the other way round."""
    near = {text}
    for at in range(len(text) + 1):
        near.add(text[:at] + text[at + 1:])
        near.add(text[:at] + text[at:at + 2][::-1] + text[at + 2:])
        for sign in CHARACTERS:
            near.add(text[:at] + sign + text[at:])
            near.add(text[:at] + sign + text[at + 1:])
    return sorted(near)


class TestRead(unittest.TestCase):
    def check(self, text):
        with self.subTest(text=text):
            if is_text(text):
                self.assertEqual(str(Net.read(text)), text)
            else:
                check_given(self, InvalidText, text, Net.read, text)
                check_given(self, InvalidText, text, Net.read, text=text)

    def test_all_near_texts(self):
        for text in ("1:", "9:", "2: 0-1a", "9: 7-8f", "3: 0-1a 0-2c 1-2b", "9: 0-1a 0-8f 7-8c"):
            self.assertTrue(is_text(text))
            for near in near_texts(text):
                self.check(near)

    def test_near_texts_of_other_nets(self):
        for net in some_nets(4, 9):
            for near in near_texts(str(net)):
                self.check(near)

    def test_read(self):
        net = Net.read("9: 0-1a 7-8f")
        self.assertEqual((net.size, net.roads), (9, ((0, 1, "a"), (7, 8, "f"))))
        self.assertEqual((Net.read("1:").size, Net.read("1:").roads), (1, ()))

    def test_sizes(self):
        for size in range(1, 10):
            self.assertEqual(Net.read(f"{size}:").size, size)
        for text in ("0:", "10:", "11:", "01:", "-1:", "+1:", ":", "", "a:", "1", "1.:", "1::", "1: ", " 1:", "1:\n"):
            self.assertFalse(is_text(text))
            self.check(text)

    def test_roads_that_are_none(self):
        for text in ("3: 1-0a", "3: 0-0a", "3: 0-3a", "3: 2-3a", "3: 0-1g", "3: 0-1A", "3: 0-1", "3: 0-1ab",
                     "3: 0-1aa", "3: 01-2a", "3: 0-01a", "3:0-1a", "3:  0-1a", "3: 0-1a ", "3: 0-1a  0-2b", "3: 0 1a",
                     "3: 0--1a", "3: 0-1 a", "3: 01a", "3: 0-1a, 0-2b", "3: 0-1a0-2b", "3: +0-1a", "9: 0-9a",
                     "1: 0-0a", "1: 0-1a", "3: ,", "3: 0-1a\n0-2b", "3:\n0-1a", "3: a-bc"):
            self.assertFalse(is_text(text))
            self.check(text)

    def test_order_of_roads(self):
        for text in ("3: 0-2a 0-1b", "3: 1-2a 0-1b", "3: 0-1a 0-1a", "3: 0-1a 0-1b", "3: 0-1b 0-1a",
                     "3: 0-1a 1-2b 0-2c", "3: 0-1a 0-2b 1-2c 0-1a"):
            self.assertFalse(is_text(text))
            self.check(text)

    def test_no_strings(self):
        for value in (*NO_INTEGERS, *NO_TUPLES, b"3:", ("3:",), ["3:"], ["3:", "0-1a"], 3, (3, ()), THREE):
            if not isinstance(value, str):
                with self.subTest(value=value):
                    check_given(self, InvalidText, value, Net.read, value)
                    check_given(self, InvalidText, value, Net.read, text=value)


if __name__ == "__main__":
    unittest.main()
