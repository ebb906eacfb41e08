"""cost, answer, total and gain, by what is kept."""

import unittest

from tests.helpers import EXAMPLE, FIVE_ROWS, GREAT, TABLES
from tests.helpers import as_answer, asked, plain_lines, question_text, table_text

QUESTIONS = [question_text(grouping, times) for grouping, times in enumerate((1, 7, 99, 20))]

# Sizes: without columns 1, by a 2, by b 2, by c 1, by a and b 3, by a and c 2, by b and c 2, by all 3; 3 rows.
ALIKE = [((0, 0, 5), 1), ((0, 1, 5), 2), ((1, 1, 5), 4)]

NO_ROWS = table_text(2, [], QUESTIONS)
NO_QUESTIONS = table_text(2, FIVE_ROWS)
WRONG_QUESTIONS = (-1, -2, -4, GREAT, -GREAT)


def read(*calls):
    """The answers to the calls on the table of five rows, which is asked for each of its groupings."""
    return asked(("load", table_text(2, FIVE_ROWS, QUESTIONS)), *calls)[1:]


def read_alike(*calls):
    questions = [question_text(grouping) for grouping in range(8)]
    return asked(("load", table_text(3, ALIKE, questions)), *calls)[1:]


class Cost(unittest.TestCase):
    COSTS = [("cost", question) for question in range(4)]

    def test_nothing_kept(self):
        self.assertEqual(read(*self.COSTS), [[5, -1, 1], [5, -1, 7], [5, -1, 99], [5, -1, 20]])

    def test_not_to_be_worked_out_from_what_is_kept(self):
        self.assertEqual(read(("keep", [0]), *self.COSTS)[1:], [[1, 0, 1], [5, -1, 7], [5, -1, 99], [5, -1, 20]])
        self.assertEqual(read(("keep", [1]), *self.COSTS)[1:], [[3, 1, 1], [3, 1, 7], [5, -1, 99], [5, -1, 20]])
        self.assertEqual(read(("keep", [2]), *self.COSTS)[1:], [[2, 2, 1], [5, -1, 7], [2, 2, 99], [5, -1, 20]])

    def test_its_own_grouping(self):
        told = read(("keep", [0, 1, 2, 3]), *self.COSTS)
        self.assertEqual(told[1:], [[1, 0, 1], [3, 1, 7], [2, 2, 99], [4, 3, 20]])

    def test_a_wider_one(self):
        self.assertEqual(read(("keep", [3]), *self.COSTS)[1:], [[4, 3, 1], [4, 3, 7], [4, 3, 99], [4, 3, 20]])

    def test_the_least_size_of_several(self):
        for order in ([1, 2, 3], [3, 2, 1], [2, 1, 3], [1, 3, 2]):
            with self.subTest(order=order):
                self.assertEqual(read(("keep", order), *self.COSTS)[1:],
                                 [[2, 2, 1], [3, 1, 7], [2, 2, 99], [4, 3, 20]])

    def test_of_alike_sizes_the_lesser_grouping(self):
        for kept, question, cost in (([1, 2], 0, [2, 1, 1]), ([1, 5], 1, [2, 1, 1]), ([5, 6], 4, [2, 5, 1]),
                                     ([0, 4], 0, [1, 0, 1]), ([2, 6], 2, [2, 2, 1]), ([3, 7], 3, [3, 3, 1]),
                                     ([3, 7], 1, [3, 3, 1]), ([7, 6, 5, 2, 1], 0, [2, 1, 1])):
            for order in (kept, kept[::-1], kept + kept[::-1]):
                with self.subTest(order=order, question=question):
                    self.assertEqual(read_alike(("keep", order), ("cost", question))[1], cost)

    def test_the_lesser_size_goes_ahead_of_the_lesser_grouping(self):
        for order in ([1, 4], [4, 1], [3, 4, 5], [5, 4, 3]):
            with self.subTest(order=order):
                self.assertEqual(read_alike(("keep", order), ("cost", 0))[1], [1, 4, 1])

    def test_as_many_lines_as_the_table_has_rows(self):
        self.assertEqual(read_alike(("keep", [7]), ("cost", 0), ("cost", 7))[1:], [[3, 7, 1], [3, 7, 1]])
        self.assertEqual(read_alike(("keep", [3]), ("cost", 1), ("cost", 3), ("cost", 4))[1:],
                         [[3, 3, 1], [3, 3, 1], [3, -1, 1]])

    def test_no_rows(self):
        told = asked(("load", NO_ROWS), *self.COSTS, ("keep", [1, 3]), *self.COSTS)[1:]
        self.assertEqual(told[:4], [[0, -1, 1], [0, -1, 7], [0, -1, 99], [0, -1, 20]])
        self.assertEqual(told[5:], [[0, 1, 1], [0, 1, 7], [0, 3, 99], [0, 3, 20]])

    def test_by_no_columns(self):
        self.assertEqual(asked(("load", "columns a ; row 1 : 2 ; row 1 : 3 ; ask times 5 ; ask ;"), ("cost", 0),
                               ("keep", [1]), ("cost", 0), ("keep", [0]), ("cost", 1))[1::2],
                         [[2, -1, 5], [1, 1, 5], [1, 0, 1]])

    def test_no_such_question(self):
        for kept in ([], [0], [0, 1, 2, 3]):
            for question in WRONG_QUESTIONS + (4, 5):
                with self.subTest(kept=kept, question=question):
                    self.assertEqual(read(("keep", kept), ("cost", question))[1], [-3])

    def test_no_questions(self):
        for question in WRONG_QUESTIONS + (0, 1):
            with self.subTest(question=question):
                self.assertEqual(asked(("load", NO_QUESTIONS), ("cost", question))[1], [-3])


class Answer(unittest.TestCase):
    def test_what_group_tells_whatever_is_kept(self):
        for width, rows in TABLES:
            every = list(range(2 ** width))
            kept_sets = [[], every] + [[grouping] for grouping in every] + [every[::-2], every[:1] + every[-1:]]
            for start in range(0, 2 ** width, 8):
                groupings = every[start:start + 8]
                text = table_text(width, rows, [question_text(grouping, 3) for grouping in groupings])
                plain = [as_answer(plain_lines(width, rows, grouping)) for grouping in groupings]
                calls = [("answer", question) for question in range(len(groupings))]
                groups = [("group", grouping) for grouping in groupings]
                for kept in kept_sets:
                    with self.subTest(width=width, rows=rows, start=start, kept=kept):
                        told = asked(("load", text), ("keep", kept), *calls, *groups)[2:]
                        self.assertEqual(told, plain + plain)

    def test_rows_are_counted_and_not_lines(self):
        told = read(("keep", [3]), ("answer", 1), ("answer", 0), ("answer", 3))
        self.assertEqual(told[1:], [[3, 0, 1, 1, 1, 6, 2, 2, 24, 2], [1, 31, 5],
                                    [4, 0, 0, 1, 1, 1, 0, 2, 1, 1, 1, 4, 1, 2, 1, 24, 2]])

    def test_no_rows(self):
        self.assertEqual(asked(("load", NO_ROWS), ("answer", 0), ("keep", [3]), ("answer", 0), ("answer", 3))[1:],
                         [[0], [1, 1, 0], [0], [0]])

    def test_no_such_question(self):
        for kept in ([], [3]):
            for question in WRONG_QUESTIONS + (4, 5):
                with self.subTest(kept=kept, question=question):
                    self.assertEqual(read(("keep", kept), ("answer", question))[1], [-3])
        for question in WRONG_QUESTIONS + (0, 1):
            with self.subTest(question=question):
                self.assertEqual(asked(("load", NO_QUESTIONS), ("answer", question))[1], [-3])


class Total(unittest.TestCase):
    def test_nothing_kept(self):
        self.assertEqual(read(("total",)), [[5 * 127, 5 * 127, 0]])

    def test_times_are_counted(self):
        told = read(("keep", [3]), ("total",), ("keep", [2]), ("total",), ("keep", [0, 1, 2, 3]), ("total",))
        self.assertEqual(told[1::2], [[4 * 127, 635, 4], [2 * 100 + 5 * 27, 635, 2],
                                      [1 + 3 * 7 + 2 * 99 + 4 * 20, 635, 10]])

    def test_the_same_question_twice(self):
        text = table_text(2, FIVE_ROWS, ["ask a ;", "ask a times 2 ;", "ask b, a ;"])
        self.assertEqual(asked(("load", text), ("total",), ("keep", [1]), ("total",))[1::2],
                         [[20, 20, 0], [14, 20, 3]])

    def test_the_second_number_never_hangs_on_what_is_kept(self):
        for kept in ([], [0], [1], [2], [3], [0, 3], [0, 1, 2, 3]):
            with self.subTest(kept=kept):
                self.assertEqual(read(("keep", kept), ("total",))[1][1], 635)

    def test_no_questions(self):
        self.assertEqual(asked(("load", NO_QUESTIONS), ("total",), ("keep", [3, 1]), ("total",))[1:],
                         [[0, 0, 0], [1, 2, 7], [0, 0, 7]])

    def test_no_rows(self):
        self.assertEqual(asked(("load", NO_ROWS), ("total",), ("keep", [3, 1]), ("total",))[1:],
                         [[0, 0, 0], [1, 2, 0], [0, 0, 0]])

    def test_the_greatest(self):
        text = table_text(4, [((9, 9, 9, 9), 1000)] * 16, ["ask a times 99 ;"] * 8)
        self.assertEqual(asked(("load", text), ("total",), ("keep", [15, 1]), ("total",))[1:],
                         [[12672, 12672, 0], [1, 2, 2], [792, 12672, 2]])


class Gain(unittest.TestCase):
    def test_nothing_kept(self):
        self.assertEqual(read(*[("gain", grouping) for grouping in range(4)]),
                         [[4, 1], [2 * 8, 3], [3 * 100, 2], [127, 4]])

    def test_some_kept(self):
        told = read(("keep", [3]), *[("gain", grouping) for grouping in range(4)])
        self.assertEqual(told[1:], [[3, 1], [8, 3], [2 * 100, 2], [0, 4]])

    def test_kept_already(self):
        for kept in ([0], [1], [2], [3], [0, 1, 2, 3]):
            told = read(("keep", kept), *[("gain", grouping) for grouping in kept])
            for answer in told[1:]:
                with self.subTest(kept=kept):
                    self.assertEqual(answer[0], 0)

    def test_what_is_kept_is_as_it_was(self):
        looks = [("total",)] + [("cost", question) for question in range(4)]
        for kept in ([], [1], [3, 0]):
            before = read(("keep", kept), *looks)[1:]
            for grouping in (0, 1, 2, 3, 4, -1):
                with self.subTest(kept=kept, grouping=grouping):
                    self.assertEqual(read(("keep", kept), ("gain", grouping), *looks)[2:], before)

    def test_no_questions_and_no_rows(self):
        self.assertEqual(asked(("load", NO_QUESTIONS), ("gain", 3), ("gain", 0))[1:], [[0, 4], [0, 1]])
        self.assertEqual(asked(("load", NO_ROWS), ("gain", 3), ("gain", 0))[1:], [[0, 0], [0, 0]])

    def test_no_such_grouping(self):
        for width in range(1, 5):
            for wrong in (-1, -2, 2 ** width, 2 ** width + 1, GREAT, -GREAT):
                for kept in ([], [0, 1]):
                    with self.subTest(width=width, wrong=wrong, kept=kept):
                        text = table_text(width, [((1,) * width, 2)], ["ask a ;"])
                        self.assertEqual(asked(("load", text), ("keep", kept), ("gain", wrong))[2], [-2])

    def test_the_example(self):
        told = asked(("load", EXAMPLE), ("gain", 3), ("keep", [3]), ("gain", 3), ("gain", 0), ("gain", 1), ("gain", 2))
        self.assertEqual(told[1:], [[14, 3], [1, 1, 3], [0, 3], [2, 1], [4, 2], [2, 2]])
