"""group, roll and sizes, beside answers worked out another way."""

import unittest
from itertools import product

from tests.helpers import GREAT, TABLES, as_answer, asked_of, plain_lines


class Group(unittest.TestCase):
    def test_all_groupings_of_all_tables(self):
        for width, rows in TABLES:
            with self.subTest(width=width, rows=rows):
                groupings = range(2 ** width)
                told = asked_of(width, rows, *[("group", grouping) for grouping in groupings])
                self.assertEqual(told, [as_answer(plain_lines(width, rows, grouping)) for grouping in groupings])

    def test_lines_are_in_order_of_their_numbers_one_by_one(self):
        rows = [((1, 0, 5), 1), ((0, 9, 9), 2), ((0, 9, 0), 3), ((1, 0, 4), 4), ((0, 8, 7), 5)]
        self.assertEqual(asked_of(3, rows, ("group", 7))[0],
                         [5, 0, 8, 7, 5, 1, 0, 9, 0, 3, 1, 0, 9, 9, 2, 1, 1, 0, 4, 4, 1, 1, 0, 5, 1, 1])

    def test_the_first_columns_bit_is_1(self):
        rows = [((1, 2, 3, 4), 50)]
        told = asked_of(4, rows, *[("group", grouping) for grouping in (1, 2, 4, 8, 5, 10, 15)])
        self.assertEqual(told, [[1, 1, 50, 1], [1, 2, 50, 1], [1, 3, 50, 1], [1, 4, 50, 1],
                                [1, 1, 3, 50, 1], [1, 2, 4, 50, 1], [1, 1, 2, 3, 4, 50, 1]])

    def test_sums_below_nothing_and_of_nothing(self):
        rows = [((1,), -5), ((1,), -6), ((2,), 7), ((2,), -7)]
        self.assertEqual(asked_of(1, rows, ("group", 1), ("group", 0)), [[2, 1, -11, 2, 2, 0, 2], [1, -11, 4]])

    def test_no_rows_have_no_lines(self):
        self.assertEqual(asked_of(2, [], *[("group", grouping) for grouping in range(4)]), [[0]] * 4)

    def test_no_such_grouping(self):
        for width in range(1, 5):
            for grouping in (-1, -2, 2 ** width, 2 ** width + 1, GREAT, -GREAT):
                for rows in ([], [((3,) * width, 1)]):
                    with self.subTest(width=width, grouping=grouping, rows=rows):
                        self.assertEqual(asked_of(width, rows, ("group", grouping)), [[-2]])


class Roll(unittest.TestCase):
    def test_all_pairs_of_all_tables(self):
        for width, rows in TABLES:
            pairs = list(product(range(2 ** width), repeat=2))
            told = asked_of(width, rows, *[("roll", source, grouping) for source, grouping in pairs])
            plain = asked_of(width, rows, *[("group", grouping) for grouping in range(2 ** width)])
            for (source, grouping), answer in zip(pairs, told):
                with self.subTest(width=width, rows=rows, source=source, grouping=grouping):
                    if any(grouping // bit % 2 > source // bit % 2 for bit in (1, 2, 4, 8)):
                        self.assertEqual(answer, [-5])
                    else:
                        self.assertEqual(answer, plain[grouping])

    def test_rows_are_counted_and_not_lines(self):
        rows = [((1, 1), 1), ((1, 1), 2), ((1, 2), 4)]
        self.assertEqual(asked_of(2, rows, ("roll", 3, 1), ("roll", 3, 0)), [[1, 1, 7, 3], [1, 7, 3]])

    def test_from_columns_that_are_not_the_first(self):
        rows = [((1, 2, 3, 4), 5), ((0, 2, 9, 4), 6)]
        self.assertEqual(asked_of(4, rows, ("roll", 14, 10), ("roll", 12, 4), ("roll", 10, 8)),
                         [[1, 2, 4, 11, 2], [2, 3, 5, 1, 9, 6, 1], [1, 4, 11, 2]])

    def test_no_such_grouping_for_either(self):
        for width in range(1, 5):
            for wrong in (-1, 2 ** width, 2 ** width + 1, GREAT, -GREAT):
                for right in (0, 1, 2 ** width - 1):
                    with self.subTest(width=width, wrong=wrong, right=right):
                        told = asked_of(width, [], ("roll", wrong, right), ("roll", right, wrong),
                                        ("roll", wrong, wrong))
                        self.assertEqual(told, [[-2]] * 3)

    def test_no_such_grouping_is_told_ahead_of_not_worked_out(self):
        self.assertEqual(asked_of(2, [], ("roll", 0, 4), ("roll", 4, 3), ("roll", 0, -1), ("roll", 0, 3)),
                         [[-2], [-2], [-2], [-5]])


class Sizes(unittest.TestCase):
    def test_all_tables(self):
        for width, rows in TABLES:
            with self.subTest(width=width, rows=rows):
                plain = [len(plain_lines(width, rows, grouping)) for grouping in range(2 ** width)]
                self.assertEqual(asked_of(width, rows, ("sizes",))[0], [len(rows)] + plain)

    def test_no_rows(self):
        for width in range(1, 5):
            self.assertEqual(asked_of(width, [], ("sizes",))[0], [0] + [0] * 2 ** width)

    def test_more_columns_no_fewer_lines_and_none_more_than_rows(self):
        for width, rows in TABLES:
            count, *lines = asked_of(width, rows, ("sizes",))[0]
            for fewer, more in product(range(2 ** width), repeat=2):
                with self.subTest(width=width, rows=rows, fewer=fewer, more=more):
                    self.assertLessEqual(lines[more], count)
                    if fewer | more == more:
                        self.assertLessEqual(lines[fewer], lines[more])
