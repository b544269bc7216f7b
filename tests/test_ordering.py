"""Ascending order of tuples and strings."""

import unittest

from duehouse.ordering import ascending
from tests.support import seeded


class AscendingTest(unittest.TestCase):
    def test_made_up_lists(self):
        rnd = seeded(51)
        for many in range(12):
            for _ in range(10):
                pairs = [(rnd.choice("abc"), rnd.choice(["", "a", "ab", "b"])) for _ in range(many)]
                before = list(pairs)
                self.assertEqual(ascending(pairs), sorted(pairs))
                self.assertEqual(pairs, before)
                self.assertIsNot(ascending(pairs), pairs)
                numbers = [rnd.randint(-5, 5) for _ in range(many)]
                self.assertEqual(ascending(numbers), sorted(numbers))

    def test_keys(self):
        self.assertEqual(ascending({("b", "a"): 1, ("a", "b"): 2}), [("a", "b"), ("b", "a")])


if __name__ == "__main__":
    unittest.main()
