"""Promise 1 of nets: each error keeps what it is made with and stands under its base."""

import unittest

from hueturns import errors
from tests.samples import THREE

BASES = {"WrongValue": ValueError, "WrongName": LookupError, "NoAnswer": ArithmeticError}

UNDER = {
    "WrongValue": {
        "given": ("InvalidText", "InvalidName", "InvalidNumber", "InvalidPlace", "InvalidHue", "InvalidHues",
                  "InvalidWish", "InvalidIndex", "InvalidLine", "NotANet"),
        "index": ("InvalidRoads", "InvalidPlaces", "InvalidPairs", "InvalidDeeds"),
    },
    "WrongName": {"given": ("UnknownName",)},
    "NoAnswer": {None: ("NoRoad", "NothingToUndo"), "given": ("TooGreat",), "index": ("Broken", "InUse")},
}

ROWS = [(name, base, attribute)
        for base, kinds in UNDER.items() for attribute, names in kinds.items() for name in names]
KEEPING = [(name, attribute) for name, _, attribute in ROWS if attribute is not None]
WITHOUT = list(BASES) + [name for name, _, attribute in ROWS if attribute is None]

ANYTHING = (0, 1, -5, 10 ** 80, True, False, None, "", "3: 0-1a", b"x", (), (1, (2, [3])), [], [1], {}, {"a": 1},
            {1, 2}, 1.5, object(), THREE, ValueError("x"), ValueError, len)


class Grumpy:
    """An object that can neither be compared nor shown nor tested."""

    def __eq__(self, other):
        raise RuntimeError

    def __bool__(self):
        raise RuntimeError

    def __repr__(self):
        raise RuntimeError

    def __len__(self):
        raise RuntimeError


class TestKept(unittest.TestCase):
    def test_by_position_and_by_name(self):
        for name, attribute in KEEPING:
            kind = getattr(errors, name)
            for value in (*ANYTHING, Grumpy()):
                with self.subTest(name=name, kind=value.__class__):
                    self.assertIs(getattr(kind(value), attribute), value)
                    self.assertIs(getattr(kind(**{attribute: value}), attribute), value)

    def test_nothing_else_is_kept(self):
        for name, attribute in KEEPING:
            with self.subTest(name=name):
                self.assertEqual(list(vars(getattr(errors, name)(7))), [attribute])

    def test_just_one_attribute(self):
        for name, attribute in KEEPING:
            kind = getattr(errors, name)
            other = {"given": "index", "index": "given"}[attribute]
            with self.subTest(name=name):
                self.assertRaises(TypeError, kind)
                self.assertRaises(TypeError, kind, 1, 2)
                self.assertRaises(TypeError, kind, **{other: 1})
                self.assertRaises(TypeError, kind, 1, **{other: 1})

    def test_without_attributes(self):
        for name in WITHOUT:
            kind = getattr(errors, name)
            with self.subTest(name=name):
                self.assertEqual(vars(kind()), {})
                self.assertRaises(TypeError, kind, 1)
                self.assertRaises(TypeError, kind, None)
                self.assertRaises(TypeError, kind, given=1)
                self.assertRaises(TypeError, kind, index=1)

    def test_kept_when_raised(self):
        value = [1]
        for name, attribute in KEEPING:
            kind = getattr(errors, name)
            with self.subTest(name=name):
                with self.assertRaises(kind) as caught:
                    raise kind(value)
                self.assertIs(getattr(caught.exception, attribute), value)


class TestBases(unittest.TestCase):
    def test_bases(self):
        for name, python in BASES.items():
            with self.subTest(name=name):
                self.assertEqual(getattr(errors, name).__bases__, (python,))

    def test_under_its_base_and_no_other_class(self):
        for name, base, _ in ROWS:
            kind = getattr(errors, name)
            with self.subTest(name=name):
                self.assertEqual(kind.__mro__[1:], getattr(errors, base).__mro__)
                own = [each for each in kind.__mro__ if each.__module__.startswith("hueturns")]
                self.assertEqual(own, [kind, getattr(errors, base)])

    def test_caught_as_its_base_alone(self):
        for name, base, attribute in ROWS:
            what = getattr(errors, name)(*([] if attribute is None else [1]))
            for other in BASES:
                with self.subTest(name=name, other=other):
                    self.assertEqual(isinstance(what, getattr(errors, other)), other == base)
                    self.assertEqual(isinstance(what, BASES[other]), other == base)

    def test_all_stand_in_their_file(self):
        for name in [*BASES, *(row[0] for row in ROWS)]:
            with self.subTest(name=name):
                self.assertEqual(getattr(errors, name).__module__, "hueturns.errors")
                self.assertEqual(getattr(errors, name).__name__, name)

    def test_no_other_classes(self):
        found = {name for name, value in vars(errors).items() if isinstance(value, type)}
        self.assertEqual(found, set(BASES) | {row[0] for row in ROWS})


if __name__ == "__main__":
    unittest.main()
