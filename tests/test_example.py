"""The document's worked example."""

import unittest

from tests.helpers import EXAMPLE, asked, loaded


class WorkedExample(unittest.TestCase):
    def test_load(self):
        self.assertEqual(loaded(EXAMPLE), [1, 2, 5, 4])

    def test_group(self):
        told = asked(("load", EXAMPLE), ("group", 1), ("group", 3), ("group", 0))
        self.assertEqual(told[1:], [
            [2, 0, 8, 3, 1, 3, 2],
            [3, 0, 0, 6, 2, 0, 1, 2, 1, 1, 0, 3, 2],
            [1, 11, 5],
        ])

    def test_sizes(self):
        self.assertEqual(asked(("load", EXAMPLE), ("sizes",))[1], [5, 1, 2, 2, 3])

    def test_roll(self):
        told = asked(("load", EXAMPLE), ("roll", 3, 1), ("roll", 1, 2))
        self.assertEqual(told[1:], [[2, 0, 8, 3, 1, 3, 2], [-5]])

    def test_nothing_kept(self):
        self.assertEqual(asked(("load", EXAMPLE), ("total",))[1], [35, 35, 0])

    def test_whole_and_in_its_order(self):
        steps = [
            (("load", EXAMPLE), [1, 2, 5, 4]),
            (("group", 1), [2, 0, 8, 3, 1, 3, 2]),
            (("group", 3), [3, 0, 0, 6, 2, 0, 1, 2, 1, 1, 0, 3, 2]),
            (("group", 0), [1, 11, 5]),
            (("sizes",), [5, 1, 2, 2, 3]),
            (("roll", 3, 1), [2, 0, 8, 3, 1, 3, 2]),
            (("roll", 1, 2), [-5]),
            (("total",), [35, 35, 0]),
            (("keep", [3]), [1, 1, 3]),
            (("cost", 0), [3, 3, 3]),
            (("total",), [21, 35, 3]),
            (("gain", 1), [4, 2]),
            (("keep", [3, 0]), [1, 2, 4]),
            (("cost", 3), [1, 0, 1]),
            (("answer", 3), [1, 11, 5]),
            (("answer", 1), [2, 0, 9, 4, 1, 2, 1]),
        ]
        self.assertEqual(asked(*[call for call, answer in steps]), [answer for call, answer in steps])
