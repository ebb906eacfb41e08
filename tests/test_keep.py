"""keep: which groupings' answers are kept from then on."""

import unittest

from tests.helpers import EXAMPLE, FIVE_ROWS, GREAT, TABLES
from tests.helpers import asked, asked_of, plain_lines, question_text, table_text

QUESTIONS = [question_text(grouping) for grouping in range(4)]


def read(*calls):
    """The answers to the calls on the table of five rows, which is asked for each of its groupings."""
    return asked(("load", table_text(2, FIVE_ROWS, QUESTIONS)), *calls)[1:]


class Keep(unittest.TestCase):
    def test_one_grouping(self):
        self.assertEqual(read(("keep", [0]), ("keep", [1]), ("keep", [2]), ("keep", [3])),
                         [[1, 1, 1], [1, 1, 3], [1, 1, 2], [1, 1, 4]])

    def test_none(self):
        self.assertEqual(read(("keep", []), ("total",), ("cost", 0)), [[1, 0, 0], [20, 20, 0], [5, -1, 1]])

    def test_none_behind_some(self):
        told = read(("keep", [3, 0]), ("total",), ("keep", []), ("total",), ("cost", 0), ("cost", 3))
        self.assertEqual(told, [[1, 2, 5], [13, 20, 5], [1, 0, 0], [20, 20, 0], [5, -1, 1], [5, -1, 1]])

    def test_the_same_several_times_counts_once(self):
        self.assertEqual(read(("keep", [1, 1]), ("total",), ("keep", [3, 0, 3, 3, 0]), ("total",)),
                         [[1, 1, 3], [16, 20, 3], [1, 2, 5], [13, 20, 5]])

    def test_in_any_order(self):
        looks = [("total",), ("cost", 0), ("cost", 1), ("cost", 2), ("cost", 3), ("gain", 1)]
        expected = [[1, 3, 7], [11, 20, 7], [1, 0, 1], [4, 3, 1], [2, 2, 1], [4, 3, 1], [1, 3]]
        for order in ([0, 2, 3], [0, 3, 2], [2, 0, 3], [2, 3, 0], [3, 0, 2], [3, 2, 0], [3, 2, 0, 2, 3]):
            with self.subTest(order=order):
                self.assertEqual(read(("keep", order), *looks), expected)

    def test_all_groupings_of_all_tables(self):
        for width, rows in TABLES:
            with self.subTest(width=width, rows=rows):
                lines = sum(len(plain_lines(width, rows, grouping)) for grouping in range(2 ** width))
                told = asked_of(width, rows, ("keep", list(range(2 ** width))), ("total",))
                self.assertEqual(told, [[1, 2 ** width, lines], [0, 0, lines]])

    def test_just_these_from_now_on(self):
        told = read(("keep", [0, 2]), ("cost", 0), ("keep", [1]), ("cost", 0), ("cost", 2), ("total",))
        self.assertEqual(told, [[1, 2, 3], [1, 0, 1], [1, 1, 3], [3, 1, 1], [5, -1, 1], [16, 20, 3]])

    def test_a_table_without_rows(self):
        told = asked_of(2, [], ("keep", [0, 3]), ("total",), ("keep", []))
        self.assertEqual(told, [[1, 2, 0], [0, 0, 0], [1, 0, 0]])


class NoSuchGrouping(unittest.TestCase):
    def test_alone_first_last_and_amid(self):
        for width in range(1, 5):
            for wrong in (-1, -2, 2 ** width, 2 ** width + 1, GREAT, -GREAT):
                for groupings in ([wrong], [wrong, 0], [0, wrong], [0, wrong, 1], [1, 0, 1, wrong], [wrong, wrong]):
                    with self.subTest(width=width, groupings=groupings):
                        self.assertEqual(asked_of(width, [], ("keep", groupings)), [[-2]])

    def test_what_was_kept_is_kept_still(self):
        looks = [("total",), ("cost", 0), ("cost", 1), ("cost", 2), ("cost", 3), ("gain", 1)]
        before = read(("keep", [2, 0]), *looks)[1:]
        for wrong in ([-1], [4], [GREAT], [-GREAT], [3, 4], [4, 3], [3, -1, 1]):
            with self.subTest(wrong=wrong):
                self.assertEqual(read(("keep", [2, 0]), ("keep", wrong), *looks), [[1, 2, 3], [-2]] + before)

    def test_nothing_is_kept_still(self):
        self.assertEqual(read(("keep", [3, 4]), ("total",)), [[-2], [20, 20, 0]])


class LongLists(unittest.TestCase):
    def test_two_thousand_right_ones(self):
        self.assertEqual(read(("keep", [3, 0, 2, 0] * 500), ("keep", [1] * 2000), ("keep", list(range(4)) * 500)),
                         [[1, 3, 7], [1, 1, 3], [1, 4, 10]])

    def test_a_wrong_one_among_two_thousand(self):
        for place in (0, 1000, 1999):
            with self.subTest(place=place):
                groupings = [3] * 2000
                groupings[place] = GREAT
                self.assertEqual(read(("keep", [0]), ("keep", groupings), ("total",)), [[1, 1, 1], [-2], [16, 20, 1]])


class Loads(unittest.TestCase):
    OTHER = "columns x ; row 4 : 7 ; ask x ; ask times 2 ;"

    def test_a_right_load_keeps_nothing(self):
        told = asked(("load", EXAMPLE), ("keep", [3, 0]), ("load", self.OTHER), ("total",), ("cost", 0), ("cost", 1),
                     ("gain", 0))
        self.assertEqual(told[2:], [[1, 1, 1, 2], [3, 3, 0], [1, -1, 1], [1, -1, 2], [0, 1]])

    def test_the_same_table_again_keeps_nothing(self):
        told = asked(("load", EXAMPLE), ("keep", [3, 0]), ("load", EXAMPLE), ("total",), ("cost", 0))
        self.assertEqual(told[3:], [[35, 35, 0], [5, -1, 3]])

    def test_a_failed_load_leaves_what_is_kept(self):
        looks = [("total",), ("cost", 0), ("cost", 3), ("answer", 3), ("gain", 1)]
        before = asked(("load", EXAMPLE), ("keep", [3, 0]), *looks)[2:]
        for text in ("", "?", "columns", "columns x ; row 10 : 1 ;", self.OTHER + "ask y ;", " " * 4097):
            with self.subTest(text=text[:30]):
                told = asked(("load", EXAMPLE), ("keep", [3, 0]), ("load", text), *looks)
                self.assertEqual(told[2][0], 0)
                self.assertEqual(told[3:], before)
