"""Promise 1 of nets: the limits are as listed."""

import unittest

from hueturns import limits

LISTED = {
    "MOST_PLACES": 9,
    "MOST_LISTED": 8,
    "MOST_CHANGED": 7,
    "MOST_ROADS": 12,
    "MOST_UNKNOWN": 5,
    "MOST_WALKED": 100,
    "MOST_NUMBER": 1000000000000000000000000000000,
}


class TestLimits(unittest.TestCase):
    def test_values(self):
        for name, value in LISTED.items():
            with self.subTest(name=name):
                self.assertEqual(getattr(limits, name), value)
                self.assertIs(getattr(limits, name).__class__, int)

    def test_nothing_else_is_listed(self):
        self.assertEqual({name for name in vars(limits) if not name.startswith("_")}, set(LISTED))


if __name__ == "__main__":
    unittest.main()
