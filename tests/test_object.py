"""What the object holds from call to call, and what it does not."""

import unittest

from keptgroupings.tables import answers
from tests.helpers import EXAMPLE, asked, flat, split

GREAT = 10 ** 18


class BeforeATable(unittest.TestCase):
    REFUSED = [
        ("shown",), ("sizes",),
        ("group", 0), ("group", 1), ("group", -1), ("group", GREAT), ("group", -GREAT),
        ("roll", 0, 0), ("roll", 3, 1), ("roll", 1, 2), ("roll", -1, 0), ("roll", GREAT, -GREAT),
    ]

    def test_each_is_refused_as_the_first_call(self):
        for call in self.REFUSED:
            with self.subTest(call=call):
                self.assertEqual(asked(call), [[-1]])

    def test_all_are_refused_one_behind_another(self):
        self.assertEqual(asked(*self.REFUSED), [[-1]] * len(self.REFUSED))

    def test_a_failed_load_leaves_it_so(self):
        told = asked(("load", "columns a"), *self.REFUSED)
        self.assertEqual(told, [[0, 3, 9]] + [[-1]] * len(self.REFUSED))

    def test_a_load_behind_refusals_is_right(self):
        told = asked(("sizes",), ("load", EXAMPLE), ("sizes",))
        self.assertEqual(told, [[-1], [1, 2, 5, 4], [5, 1, 2, 2, 3]])


class LoadsOneBehindAnother(unittest.TestCase):
    LOOKS = [("shown",), ("group", 3), ("roll", 3, 2), ("sizes",)]
    OTHER = "columns x ; row 4 : 7 ; ask x ;"

    def test_a_failed_load_changes_nothing(self):
        before = asked(("load", EXAMPLE), *self.LOOKS)[1:]
        failing = {
            "columns x, y, z ; row 1, 2, 3 : 4 ; ask x, x ;": [0, 6, 43],
            "columns x ; row 1 : 1 ; row 10 : 1 ;": [0, 7, 28],
            "columns x ; ask y ;": [0, 8, 16],
            "?": [0, 2, 0],
            "": [0, 3, 0],
            " " * 4097: [0, 1, 4096],
        }
        for text, answer in failing.items():
            with self.subTest(text=text[:50]):
                told = asked(("load", EXAMPLE), ("load", text), *self.LOOKS)
                self.assertEqual(told[1], answer)
                self.assertEqual(told[2:], before)

    def test_a_right_load_takes_the_place_of_the_one_before(self):
        told = asked(("load", EXAMPLE), ("load", self.OTHER), ("sizes",), ("group", 1), ("group", 2),
                     ("shown",), ("load", EXAMPLE), ("sizes",))
        self.assertEqual(told[:5], [[1, 2, 5, 4], [1, 1, 1, 1], [1, 1, 1], [1, 4, 7, 1], [-2]])
        self.assertEqual(bytes(told[5][1:]), b"columns x ;\nrow 4 : 7 ;\nask x ;\n")
        self.assertEqual(told[6:], [[1, 2, 5, 4], [5, 1, 2, 2, 3]])

    def test_a_refusal_changes_nothing(self):
        before = asked(("load", EXAMPLE), *self.LOOKS)[1:]
        told = asked(("load", EXAMPLE), ("group", -1), ("roll", 1, 2), ("roll", 4, 0), *self.LOOKS)
        self.assertEqual(told[1:], [[-2], [-5], [-2]] + before)


class TheFunction(unittest.TestCase):
    CALLS = [("sizes",), ("load", EXAMPLE), ("shown",), ("group", 3), ("load", "x"), ("roll", 3, 1), ("sizes",)]

    def test_the_list_handed_in_stays_as_it_was(self):
        numbers = flat(self.CALLS)
        before = list(numbers)
        answers(numbers)
        self.assertEqual(numbers, before)

    def test_twice_the_same(self):
        numbers = flat(self.CALLS)
        first = answers(numbers)
        self.assertEqual(answers(numbers), first)

    def test_changing_what_was_given_back_changes_no_later_answer(self):
        numbers = flat(self.CALLS)
        first = answers(numbers)
        kept = list(first)
        first.clear()
        self.assertEqual(answers(numbers), kept)

    def test_nothing_is_kept_from_one_time_to_the_next(self):
        self.assertEqual(asked(("load", EXAMPLE))[0][0], 1)
        self.assertEqual(asked(("sizes",)), [[-1]])

    def test_whole_numbers_alone_are_given_back(self):
        given = answers(flat(self.CALLS))
        self.assertIs(type(given), list)
        self.assertEqual({type(number) for number in given}, {int})

    def test_the_flat_list_to_the_letter(self):
        text = list(b"columns a;row 3:-2;")
        numbers = [4, 0, len(text)] + text + [2, 1, 3, 1, 0, 2, 2, 4, 0, 1, 63]
        self.assertEqual(answers(numbers), [1, -1, 4, 1, 1, 1, 0, 4, 1, 3, -2, 1, 3, 1, -2, 1, 1, -2, 3, 1, 1, 1,
                                            3, 0, 2, 0])

    def test_sixty_calls_on_one_object(self):
        calls = [("load", EXAMPLE)]
        expected = [[1, 2, 5, 4]]
        answered = [
            (("group", 1), [2, 0, 8, 3, 1, 3, 2]), (("roll", 1, 2), [-5]), (("sizes",), [5, 1, 2, 2, 3]),
            (("group", 4), [-2]), (("load", "row"), [0, 3, 0]), (("roll", 2, 0), [1, 11, 5]),
        ]
        while len(calls) < 60:
            call, answer = answered[len(calls) % len(answered)]
            calls.append(call)
            expected.append(answer)
        self.assertEqual(asked(*calls), expected)

    def test_sixty_loads_and_looks_with_long_texts(self):
        long_text = EXAMPLE + " " * (400 - len(EXAMPLE))
        calls = [("load", long_text), ("sizes",)] * 30
        self.assertEqual(asked(*calls), [[1, 2, 5, 4], [5, 1, 2, 2, 3]] * 30)

    def test_split_sees_every_number(self):
        self.assertEqual(split([1, -1, 3, 1, 11, 5]), [[-1], [1, 11, 5]])
