"""What several tests use: the nets of the document, wrong values, and how an error is looked at."""

import random

from hueturns.nets import Net

THREE = Net.read("3: 0-1a 0-2c 1-2b")
DULL = Net(3, ((0, 1, "a"), (0, 2, "a"), (1, 2, "b")))
SQUARE = Net.read("4: 0-1a 0-3b 1-2b 2-3a")
KITE = Net.read("5: 0-1a 0-3b 1-2b 2-3a 3-4a")
PATH = Net.read("4: 0-1a 1-2a 2-3b")
FULL = Net.read("4: 0-1a 0-2b 0-3c 1-2c 1-3b 2-3a")
LONE = Net.read("1:")
EMPTY_NINE = Net.read("9:")

# What is an integer nowhere, though some of it equals one or holds one.
NO_INTEGERS = (True, False, None, "", "0", "1", b"1", (), (1,), [], [1], {}, {1: 1}, {1}, object(), THREE, int, len)

# What is a tuple nowhere, though some of it can be gone through.
NO_TUPLES = (True, False, None, 0, 1, "", "012", "3:", b"", [], [0, 1], [(0, 1, "a")], {}, {0: 1}, set(), object(),
             THREE, range(2), tuple, len)

# What is a hue nowhere, though None stands for any hue where ways are asked for.
NO_HUES = (True, False, None, 0, 1, "", "g", "A", "F", "z", " ", "ab", "aa", "a ", " a", "abcdef", "-", "0", b"a",
           ("a",), ["a"], {"a": 1}, {"a"}, object(), THREE, str)

# What is a net nowhere, though some of it tells of one.
NO_NETS = tuple(value for value in (*NO_INTEGERS, *NO_TUPLES, 3, str(KITE), repr(KITE), KITE.roads, (5, KITE.roads), Net)
                if not isinstance(value, Net))


def every_pair(size):
    """All pairs of places, the lesser one first."""
    return [(low, high) for low in range(size) for high in range(low + 1, size)]


def some_net(source, size, hues="abcdef", share=0.5):
    """A net of this size that a random source chooses."""
    return Net(size, tuple((*pair, source.choice(hues)) for pair in every_pair(size) if source.random() < share))


def some_nets(seed, many, hues="abcdef"):
    """Nets of all sizes, the same ones for the same seed."""
    source = random.Random(seed)
    return [some_net(source, 1 + at % 9, hues, source.choice((0.2, 0.5, 0.8, 1))) for at in range(many)]


def raised(case, error, call, *args, **named):
    """The error that a call raises, which is of just this class."""
    with case.assertRaises(error) as caught:
        call(*args, **named)
    case.assertIs(caught.exception.__class__, error)
    return caught.exception


def check_given(case, error, given, call, *args, **named):
    """That a call raises an error with this very value as `given`."""
    what = raised(case, error, call, *args, **named)
    case.assertEqual(list(vars(what)), ["given"])
    case.assertIs(what.given, given)


def check_index(case, error, index, call, *args, **named):
    """That a call raises an error with this `index`."""
    what = raised(case, error, call, *args, **named)
    case.assertEqual(list(vars(what)), ["index"])
    case.assertEqual((what.index, what.index.__class__), (index, index.__class__))
