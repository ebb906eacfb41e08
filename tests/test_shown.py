"""The one form."""

import unittest

from tests.helpers import EXAMPLE, asked, form_of, table_text


class OneForm(unittest.TestCase):
    def test_the_example(self):
        self.assertEqual(form_of(EXAMPLE), (
            "columns city, kind ;\n"
            "row 0, 0 : 5 ;\n"
            "row 0, 1 : 2 ;\n"
            "row 1, 0 : 4 ;\n"
            "row 1, 0 : -1 ;\n"
            "row 0, 0 : 1 ;\n"
            "ask city times 3 ;\n"
            "ask kind ;\n"
            "ask city, kind times 2 ;\n"
            "ask ;\n"
        ))

    def test_the_columns_alone(self):
        self.assertEqual(form_of("columns x;"), "columns x ;\n")
        self.assertEqual(form_of("columns d,c,b,a;"), "columns d, c, b, a ;\n")

    def test_rows_first_then_questions_each_in_their_order(self):
        self.assertEqual(form_of("columns a;ask times 2;row 9:1;ask a;row 0:2;row 9:1;"),
                         "columns a ;\nrow 9 : 1 ;\nrow 0 : 2 ;\nrow 9 : 1 ;\nask times 2 ;\nask a ;\n")

    def test_a_questions_columns_in_order_of_their_numbers(self):
        self.assertEqual(form_of("columns d,c,b,a;ask a,b,c,d;ask b,d;ask a,c times 4;"),
                         "columns d, c, b, a ;\nask d, c, b, a ;\nask d, b ;\nask c, a times 4 ;\n")

    def test_times_1_is_left_out(self):
        self.assertEqual(form_of("columns a;ask a times 1;ask times 1;ask a times 2;ask times 99;"),
                         "columns a ;\nask a ;\nask ;\nask a times 2 ;\nask times 99 ;\n")

    def test_no_blank_behind_a_minus_and_none_less_than_nothing(self):
        self.assertEqual(form_of("columns a;row 1:- 0;row 2:-\n7;row 3:-1000;"),
                         "columns a ;\nrow 1 : 0 ;\nrow 2 : -7 ;\nrow 3 : -1000 ;\n")

    def test_how_many_bytes_stands_ahead(self):
        told = asked(("load", "columns ab;row 4:-5;"), ("shown",))
        form = list(b"columns ab ;\nrow 4 : -5 ;\n")
        self.assertEqual(told[1], [len(form)] + form)

    def test_shown_twice_is_the_same(self):
        told = asked(("load", EXAMPLE), ("shown",), ("group", 3), ("sizes",), ("shown",))
        self.assertEqual(told[1], told[4])


class ReadAgain(unittest.TestCase):
    LONG = "ABCDEFGHIJKLMNO"
    TEXTS = [
        EXAMPLE,
        "columns x ;",
        "columns a, b; row 1, 2 : -0; ask b, a times 1; # end",
        table_text(4, [((n % 10, 9 - n % 10, 0, n // 10), 1000 - 125 * n) for n in range(16)],
                   ["ask d, b times 99 ;"] * 4 + ["ask ;"] * 2 + ["ask times 2 ;", "ask c, a, b, d ;"]),
        f"columns {LONG}1, {LONG}2, {LONG}3, {LONG}4 ;" + "row 9, 9, 9, 9 : -1000 ;" * 16
        + f"ask {LONG}4, {LONG}3, {LONG}2, {LONG}1 times 99 ;" * 8,
    ]

    def test_what_is_shown_is_read_as_the_same_table(self):
        for text in self.TEXTS:
            with self.subTest(text=text[:40]):
                looks = [("shown",), ("sizes",), ("group", 0), ("group", 1), ("total",), ("gain", 1), ("cost", 0),
                         ("keep", [1, 0]), ("total",), ("cost", 0), ("answer", 0), ("answer", 7)]
                first = asked(("load", text), *looks)
                again = asked(("load", first[1][1:]), *looks)
                self.assertLessEqual(first[1][0], 4096)
                self.assertEqual(again, first)
