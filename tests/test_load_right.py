"""Texts that are right tables."""

import unittest

from tests.helpers import form_of, loaded, table_text

LONGEST_TEXT = 4096


class BlanksAndRemarks(unittest.TestCase):
    TOKENS = ["columns", "a", ",", "b", ";", "row", "1", ",", "2", ":", "-", "3", ";",
              "ask", "a", ",", "b", "times", "2", ";", "ask", "times", "7", ";", "ask", ";"]
    FORM = "columns a, b ;\nrow 1, 2 : -3 ;\nask a, b times 2 ;\nask times 7 ;\nask ;\n"

    def test_every_kind_of_blank_between_all_tokens_and_at_both_ends(self):
        for between in (" ", "\t", "\n", "  \t\n \n", "# row 1 : ;\n", "#\n", "#a#\n#b\n", " # x\n\t",
                        "#\x00\x0d\xff?ask 01 abcdefghijklmnopqrs\n"):
            with self.subTest(between=between):
                text = between + between.join(self.TOKENS) + between
                self.assertEqual(form_of(text), self.FORM)

    def test_blanks_at_one_place_alone(self):
        for place in range(len(self.TOKENS) + 1):
            for blank in ("\t", "\n", "# remark\n"):
                with self.subTest(place=place, blank=blank):
                    tokens = self.TOKENS[:place] + [blank] + self.TOKENS[place:]
                    self.assertEqual(form_of(" ".join(tokens)), self.FORM)

    def test_no_blanks_where_tokens_part_by_themselves(self):
        self.assertEqual(form_of("columns a,b;row 1,2:-3;ask a,b times 2;ask times 7;ask;"), self.FORM)

    def test_a_number_parts_from_what_stands_behind(self):
        self.assertEqual(form_of("columns a;ask a times 2;row 0:0;"), "columns a ;\nrow 0 : 0 ;\nask a times 2 ;\n")

    def test_a_remark_parts_two_tokens(self):
        self.assertEqual(form_of("columns#\na#b\n;ask#times 3;\n;"), "columns a ;\nask ;\n")

    def test_a_remark_that_ends_at_the_end(self):
        for end in ("#", "# over", "\n#x#y", "##"):
            with self.subTest(end=end):
                self.assertEqual(loaded("columns a ;" + end), [1, 1, 0, 0])

    def test_a_remark_goes_to_the_row_end(self):
        self.assertEqual(loaded("columns a ; # row 1 : 2 ; row 2 : 2 ;\nrow 1 : 1 ; # ask ;"), [1, 1, 1, 0])


class Counts(unittest.TestCase):
    def test_columns_from_1_to_4(self):
        for width in range(1, 5):
            with self.subTest(width=width):
                self.assertEqual(loaded(table_text(width, [])), [1, width, 0, 0])

    def test_rows_from_0_to_16(self):
        for count in range(17):
            with self.subTest(count=count):
                self.assertEqual(loaded(table_text(2, [((1, 2), 3)] * count)), [1, 2, count, 0])

    def test_questions_from_0_to_8(self):
        for count in range(9):
            with self.subTest(count=count):
                self.assertEqual(loaded(table_text(1, [], ["ask a ;"] * count)), [1, 1, 0, count])

    def test_all_at_their_most(self):
        text = table_text(4, [((9, 9, 9, 9), -1000)] * 16, ["ask d, c, b, a times 99 ;"] * 8)
        self.assertEqual(loaded(text), [1, 4, 16, 8])

    def test_rows_and_questions_mixed(self):
        text = "columns a; ask a; row 1: 1; ask; row 2: 2; row 3: 3; ask times 5;"
        self.assertEqual(loaded(text), [1, 1, 3, 3])
        self.assertEqual(form_of(text),
                         "columns a ;\nrow 1 : 1 ;\nrow 2 : 2 ;\nrow 3 : 3 ;\nask a ;\nask ;\nask times 5 ;\n")

    def test_the_most_rows_and_questions_mixed(self):
        text = "columns a;" + "row 1 : 1 ; ask a ; row 2 : 2 ;" * 8
        self.assertEqual(loaded(text), [1, 1, 16, 8])


class Numbers(unittest.TestCase):
    def test_amounts(self):
        for written, shown in (("0", "0"), ("-0", "0"), ("1000", "1000"), ("-1000", "-1000"), ("1", "1"),
                               ("- 7", "-7"), ("-#\n999", "-999")):
            with self.subTest(written=written):
                self.assertEqual(form_of(f"columns a; row 0 : {written};"), f"columns a ;\nrow 0 : {shown} ;\n")

    def test_values_from_0_to_9(self):
        for value in range(10):
            with self.subTest(value=value):
                self.assertEqual(form_of(f"columns a, b; row {value}, {9 - value} : 1;"),
                                 f"columns a, b ;\nrow {value}, {9 - value} : 1 ;\n")

    def test_times(self):
        for times in (1, 2, 9, 10, 98, 99):
            with self.subTest(times=times):
                told = "" if times == 1 else f" times {times}"
                self.assertEqual(form_of(f"columns a; ask a times {times}; ask times {times};"),
                                 f"columns a ;\nask a{told} ;\nask{told} ;\n")

    def test_times_left_out(self):
        self.assertEqual(form_of("columns a; ask a; ask;"), "columns a ;\nask a ;\nask ;\n")


class Names(unittest.TestCase):
    def test_long_names(self):
        for name in ("x" * 16, "A" + "0" * 15, "z1Z", "aB9", "Z", "a"):
            with self.subTest(name=name):
                self.assertEqual(form_of(f"columns {name}; ask {name};"), f"columns {name} ;\nask {name} ;\n")

    def test_all_letters_and_digits(self):
        names = ["ABCDEFGHIJKLM", "NOPQRSTUVWXYZ", "abcdefghijklmn", "opqrstuvwxyz"]
        self.assertEqual(form_of("columns " + ",".join(names) + ";"), "columns " + ", ".join(names) + " ;\n")
        self.assertEqual(form_of("columns a0123456789;"), "columns a0123456789 ;\n")

    def test_names_near_the_four_words(self):
        for name in ("Columns", "COLUMNS", "column", "columns1", "row1", "rows", "Row", "ask0", "asks", "aSk",
                     "timesx", "time", "TIMES"):
            with self.subTest(name=name):
                self.assertEqual(form_of(f"columns {name}; ask {name} times 2;"),
                                 f"columns {name} ;\nask {name} times 2 ;\n")

    def test_letters_small_and_great_are_unlike(self):
        self.assertEqual(loaded("columns a, A, b, B; ask B, A, a;"), [1, 4, 0, 1])

    def test_the_same_column_in_two_questions(self):
        self.assertEqual(loaded("columns a, b; ask a; ask a, b; ask b, a;"), [1, 2, 0, 3])


class Length(unittest.TestCase):
    def test_just_4096_bytes(self):
        start = "columns a; row 1 : 2;"
        for text in (start.ljust(LONGEST_TEXT), start.ljust(LONGEST_TEXT, "#"), start.ljust(LONGEST_TEXT, "\n"),
                     start.rjust(LONGEST_TEXT)):
            with self.subTest(end=text[-5:]):
                self.assertEqual(len(text), LONGEST_TEXT)
                self.assertEqual(loaded(text), [1, 1, 1, 0])
