"""What the object holds from call to call, and what it does not."""

import unittest

from keptgroupings.tables import answers
from tests.helpers import EXAMPLE, GREAT, asked, flat, split


class BeforeATable(unittest.TestCase):
    REFUSED = [
        ("shown",), ("sizes",),
        ("group", 0), ("group", 1), ("group", -1), ("group", GREAT), ("group", -GREAT),
        ("roll", 0, 0), ("roll", 3, 1), ("roll", 1, 2), ("roll", -1, 0), ("roll", GREAT, -GREAT),
        ("keep", []), ("keep", [0]), ("keep", [3, 0, 3]), ("keep", [-1, GREAT, -GREAT]), ("keep", [16] * 2000),
        ("cost", 0), ("cost", 1), ("cost", -1), ("cost", GREAT), ("cost", -GREAT),
        ("answer", 0), ("answer", 1), ("answer", -1), ("answer", GREAT), ("answer", -GREAT),
        ("total",),
        ("gain", 0), ("gain", 1), ("gain", -1), ("gain", GREAT), ("gain", -GREAT),
    ]

    def test_each_is_refused_as_the_first_call(self):
        for call in self.REFUSED:
            with self.subTest(call=call):
                self.assertEqual(asked(call), [[-1]])

    def test_all_are_refused_one_behind_another(self):
        self.assertEqual(asked(*self.REFUSED), [[-1]] * len(self.REFUSED))

    def test_a_failed_load_leaves_it_so(self):
        told = asked(("load", "columns a"), *self.REFUSED)
        self.assertEqual(told, [[0, 3, 9]] + [[-1]] * len(self.REFUSED))

    def test_a_load_behind_refusals_is_right(self):
        told = asked(("sizes",), ("load", EXAMPLE), ("sizes",))
        self.assertEqual(told, [[-1], [1, 2, 5, 4], [5, 1, 2, 2, 3]])

    def test_what_was_refused_is_not_kept(self):
        told = asked(("keep", [0, 1]), ("load", EXAMPLE), ("total",), ("cost", 0))
        self.assertEqual(told, [[-1], [1, 2, 5, 4], [35, 35, 0], [5, -1, 3]])


class LoadsOneBehindAnother(unittest.TestCase):
    LOOKS = [("shown",), ("group", 3), ("roll", 3, 2), ("sizes",)]
    OTHER = "columns x ; row 4 : 7 ; ask x ;"

    def test_a_failed_load_changes_nothing(self):
        before = asked(("load", EXAMPLE), *self.LOOKS)[1:]
        failing = {
            "columns x, y, z ; row 1, 2, 3 : 4 ; ask x, x ;": [0, 6, 43],
            "columns x ; row 1 : 1 ; row 10 : 1 ;": [0, 7, 28],
            "columns x ; ask y ;": [0, 8, 16],
            "?": [0, 2, 0],
            "": [0, 3, 0],
            " " * 4097: [0, 1, 4096],
        }
        for text, answer in failing.items():
            with self.subTest(text=text[:50]):
                told = asked(("load", EXAMPLE), ("load", text), *self.LOOKS)
                self.assertEqual(told[1], answer)
                self.assertEqual(told[2:], before)

    def test_a_right_load_takes_the_place_of_the_one_before(self):
        told = asked(("load", EXAMPLE), ("load", self.OTHER), ("sizes",), ("group", 1), ("group", 2),
                     ("shown",), ("load", EXAMPLE), ("sizes",))
        self.assertEqual(told[:5], [[1, 2, 5, 4], [1, 1, 1, 1], [1, 1, 1], [1, 4, 7, 1], [-2]])
        self.assertEqual(bytes(told[5][1:]), b"columns x ;\nrow 4 : 7 ;\nask x ;\n")
        self.assertEqual(told[6:], [[1, 2, 5, 4], [5, 1, 2, 2, 3]])

    def test_a_refusal_changes_nothing(self):
        before = asked(("load", EXAMPLE), *self.LOOKS)[1:]
        told = asked(("load", EXAMPLE), ("group", -1), ("roll", 1, 2), ("roll", 4, 0), *self.LOOKS)
        self.assertEqual(told[1:], [[-2], [-5], [-2]] + before)

    def test_no_refusal_changes_what_is_kept(self):
        looks = self.LOOKS + [("total",), ("cost", 0), ("answer", 1), ("gain", 1)]
        before = asked(("load", EXAMPLE), ("keep", [3, 0]), *looks)[2:]
        told = asked(("load", EXAMPLE), ("keep", [3, 0]), ("keep", [1, 4]), ("cost", 4), ("answer", -1), ("gain", 4),
                     ("group", 4), ("roll", 1, 2), *looks)
        self.assertEqual(told[2:], [[-2], [-3], [-3], [-2], [-2], [-5]] + before)


class TheFunction(unittest.TestCase):
    CALLS = [("sizes",), ("load", EXAMPLE), ("shown",), ("group", 3), ("load", "x"), ("roll", 3, 1), ("sizes",),
             ("keep", [3, 0, 3]), ("cost", 0), ("answer", 0), ("total",), ("gain", 1), ("keep", [0, 9]), ("cost", 4)]

    def test_the_list_handed_in_stays_as_it_was(self):
        numbers = flat(self.CALLS)
        before = list(numbers)
        answers(numbers)
        self.assertEqual(numbers, before)

    def test_twice_the_same(self):
        numbers = flat(self.CALLS)
        first = answers(numbers)
        self.assertEqual(answers(numbers), first)

    def test_changing_what_was_given_back_changes_no_later_answer(self):
        numbers = flat(self.CALLS)
        first = answers(numbers)
        kept = list(first)
        first.clear()
        self.assertEqual(answers(numbers), kept)

    def test_nothing_is_kept_from_one_time_to_the_next(self):
        self.assertEqual(asked(("load", EXAMPLE))[0][0], 1)
        self.assertEqual(asked(("sizes",)), [[-1]])
        self.assertEqual(asked(("load", EXAMPLE), ("keep", [3]), ("total",))[2], [21, 35, 3])
        self.assertEqual(asked(("load", EXAMPLE), ("total",))[1], [35, 35, 0])

    def test_whole_numbers_alone_are_given_back(self):
        given = answers(flat(self.CALLS))
        self.assertIs(type(given), list)
        self.assertEqual({type(number) for number in given}, {int})

    def test_the_flat_list_to_the_letter(self):
        text = list(b"columns a;row 3:-2;")
        numbers = [4, 0, len(text)] + text + [2, 1, 3, 1, 0, 2, 2, 4, 0, 1, 63]
        self.assertEqual(answers(numbers), [1, -1, 4, 1, 1, 1, 0, 4, 1, 3, -2, 1, 3, 1, -2, 1, 1, -2, 3, 1, 1, 1,
                                            3, 0, 2, 0])

    def test_the_flat_list_of_the_calls_on_kept_answers(self):
        text = list(b"columns a;row 3:-2;row 3:1;ask a times 2;")
        numbers = [0, len(text)] + text + [9, 1, 5, 3, 1, 0, 1, 6, 0, 7, 0, 8, 5, 0, 8, 5, 1, 2, 6, 1, 7, -1, 9, 2]
        self.assertEqual(answers(numbers), [4, 1, 1, 2, 1, 2, 2, 1, 3, 1, 2, 2, 3, 1, 1, 2, 4, 1, 3, -1, 2, 3, 2, 4, 2,
                                            3, 1, 0, 0, 3, 4, 4, 0, 1, -2, 1, -3, 1, -3, 1, -2])

    def test_sixty_calls_on_one_object(self):
        calls = [("load", EXAMPLE)]
        expected = [[1, 2, 5, 4]]
        answered = [
            (("group", 1), [2, 0, 8, 3, 1, 3, 2]), (("roll", 1, 2), [-5]), (("sizes",), [5, 1, 2, 2, 3]),
            (("group", 4), [-2]), (("load", "row"), [0, 3, 0]), (("roll", 2, 0), [1, 11, 5]),
        ]
        while len(calls) < 60:
            call, answer = answered[len(calls) % len(answered)]
            calls.append(call)
            expected.append(answer)
        self.assertEqual(asked(*calls), expected)

    def test_sixty_loads_and_looks_with_long_texts(self):
        long_text = EXAMPLE + " " * (400 - len(EXAMPLE))
        calls = [("load", long_text), ("sizes",)] * 30
        self.assertEqual(asked(*calls), [[1, 2, 5, 4], [5, 1, 2, 2, 3]] * 30)

    def test_sixty_calls_of_all_kinds(self):
        steps = [
            (("load", EXAMPLE), [1, 2, 5, 4]), (("total",), [35, 35, 0]), (("gain", 1), [12, 2]),
            (("keep", [3]), [1, 1, 3]), (("group", 1), [2, 0, 8, 3, 1, 3, 2]), (("cost", 0), [3, 3, 3]),
            (("total",), [21, 35, 3]), (("roll", 1, 2), [-5]), (("gain", 1), [4, 2]), (("keep", [0, 4]), [-2]),
            (("load", "row"), [0, 3, 0]), (("answer", 1), [2, 0, 9, 4, 1, 2, 1]), (("keep", [3, 0]), [1, 2, 4]),
            (("cost", 3), [1, 0, 1]), (("answer", 3), [1, 11, 5]), (("sizes",), [5, 1, 2, 2, 3]),
            (("roll", 2, 0), [1, 11, 5]), (("cost", 4), [-3]), (("keep", []), [1, 0, 0]), (("cost", 0), [5, -1, 3]),
        ]
        self.assertEqual(asked(*[call for call, answer in steps] * 3), [answer for call, answer in steps] * 3)

    def test_seventeen_thousand_numbers(self):
        calls = [("load", EXAMPLE)]
        expected = [[1, 2, 5, 4]]
        while len(calls) < 57:
            calls.append(("keep", [3, 0, 1] * 95))
            expected.append([1, 3, 6])
        calls.extend([("total",), ("keep", [])])
        expected.extend([[16, 35, 6], [1, 0, 0]])
        left = 17000 - len(flat(calls)) - 2
        numbers = flat(calls + [("keep", [2] * left)])
        self.assertEqual(len(numbers), 17000)
        self.assertLessEqual(left, 2000)
        before = list(numbers)
        self.assertEqual(split(answers(numbers)), expected + [[1, 1, 2]])
        self.assertEqual(numbers, before)

    def test_long_texts_and_long_lists(self):
        long_text = EXAMPLE.ljust(4096)
        calls = [("load", long_text), ("keep", [3] * 2000), ("load", long_text[:4000]), ("keep", [0] * 2000),
                 ("load", long_text + " "), ("total",)]
        self.assertEqual(asked(*calls), [[1, 2, 5, 4], [1, 1, 3], [1, 2, 5, 4], [1, 1, 1], [0, 1, 4096], [31, 35, 1]])
        self.assertEqual(asked(("load", " " * 8192), ("load", long_text.ljust(8192)), ("total",)),
                         [[0, 1, 4096], [0, 1, 4096], [-1]])

    def test_split_sees_every_number(self):
        self.assertEqual(split([1, -1, 3, 1, 11, 5]), [[-1], [1, 11, 5]])
