"""The document's worked example."""

import unittest

from tests.helpers import EXAMPLE, asked, loaded


class WorkedExample(unittest.TestCase):
    def test_load(self):
        self.assertEqual(loaded(EXAMPLE), [1, 2, 5, 4])

    def test_group(self):
        told = asked(("load", EXAMPLE), ("group", 1), ("group", 3), ("group", 0))
        self.assertEqual(told[1:], [
            [2, 0, 8, 3, 1, 3, 2],
            [3, 0, 0, 6, 2, 0, 1, 2, 1, 1, 0, 3, 2],
            [1, 11, 5],
        ])

    def test_sizes(self):
        self.assertEqual(asked(("load", EXAMPLE), ("sizes",))[1], [5, 1, 2, 2, 3])

    def test_roll(self):
        told = asked(("load", EXAMPLE), ("roll", 3, 1), ("roll", 1, 2))
        self.assertEqual(told[1:], [[2, 0, 8, 3, 1, 3, 2], [-5]])
