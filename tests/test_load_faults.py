"""Texts that are no right tables: each fault's code and place."""

import unittest

from tests.helpers import loaded, marked

HEAD = "columns a, b ; "
FULL_OF_ROWS = HEAD + "row 1, 2 : 3 ; " * 16
FULL_OF_QUESTIONS = HEAD + "ask a ; " * 8


class Faults(unittest.TestCase):
    def check(self, code, *texts):
        """Each text's first fault is this one, where its mark ^ stands."""
        for told in texts:
            with self.subTest(text=told):
                text, place = marked(told)
                self.assertEqual(loaded(text), [0, code, place])


class TooLong(Faults):
    def check_length(self, text):
        with self.subTest(start=text[:20], length=len(text)):
            self.assertEqual(loaded(text), [0, 1, 4096])

    def test_a_byte_too_many(self):
        self.check_length("columns a ;".ljust(4097))
        self.check_length("columns a ;".ljust(4097, "#"))
        self.check_length("columns a ;".ljust(8192))

    def test_ahead_of_all_other_faults(self):
        self.check_length("?".ljust(4097))
        self.check_length("row".ljust(4097))
        self.check_length("".ljust(4097))
        self.check_length("columns a, a ;".ljust(4097))
        self.check_length("columns a ;".ljust(4096) + "?")
        self.check_length("9" * 4097)

    def test_other_faults_where_it_is_not_too_long(self):
        self.assertEqual(loaded("?".ljust(4096)), [0, 2, 0])
        self.assertEqual(loaded("columns a".ljust(4096)), [0, 3, 4096])
        self.assertEqual(loaded("9" * 4096), [0, 2, 0])


class NoToken(Faults):
    def test_bytes_that_begin_no_token(self):
        allowed = set(b"\t\n #,:;-0123456789abcdefghijklmnopqrstuvwxyzABCDEFGHIJKLMNOPQRSTUVWXYZ")
        for byte in range(256):
            with self.subTest(byte=byte):
                answer = loaded(list(b"columns a ; ") + [byte])
                if byte in allowed:
                    self.assertNotEqual(answer[:2], [0, 2])
                else:
                    self.assertEqual(answer, [0, 2, 12])

    def test_where_it_stands(self):
        self.check(2, "^?", "columns a^. ;", "columns a ; row 1 ^+ ;", "^_a", "columns a^_b ;", "columns a ;^\r\n",
                   "columns a ; ask a ;^\x00", "^\xff columns a ;", "columns a ; # ?\n ^? # ?")

    def test_names_too_long(self):
        self.check(2, "columns ^" + "x" * 17 + " ;", "^" + "c" * 200, "columns a, ^b" + "0" * 16 + ";",
                   "columns a ; ask ^columnscolumnscol ;")

    def test_numbers_too_great(self):
        self.check(2, "columns a ; row ^1000000001 : 1 ;", "columns a ; row ^9999999999 : 1 ;",
                   "columns a ; row ^10000000000 : 1 ;", "columns a ; row 1 : -^1000000001 ;", "^" + "1" * 4000)

    def test_the_greatest_number_is_one(self):
        self.check(7, "columns a ; row ^1000000000 : 1 ;", "columns a ; row 1 : ^1000000000 ;",
                   "columns a ; row 1 : -^1000000000 ;", "columns a ; ask times ^1000000000 ;",
                   "columns a ; row ^999999999 : 1 ;")

    def test_needless_zeros(self):
        self.check(2, "columns a ; row ^00 : 1 ;", "columns a ; row ^01 : 1 ;", "columns a ; row 1 : ^007 ;",
                   "columns a ; row 1 : -^00 ;", "columns a ; ask a times ^01 ;", "^0000000000000", "0, ^00a")

    def test_a_zero_by_itself_is_a_number(self):
        self.check(3, "columns a ; row 0^x : 1 ;", "columns a ; row 0 ^0 : 1 ;")

    def test_ahead_of_faults_from_3_on_wherever_it_stands(self):
        for faulty in ("row ;", "columns a, b, c, d, e ;", "columns a, a ;", "columns a ; ask a, a ;",
                       "columns a ; row 10 : 1 ;", "columns a ; ask b ;", FULL_OF_ROWS + "row",
                       FULL_OF_QUESTIONS + "ask"):
            self.check(2, faulty + " ^?", faulty + " ^01", faulty + " ^" + "n" * 17, faulty + " ; ; 3 ^1000000001 ?")

    def test_the_first_of_several(self):
        self.check(2, "columns ^? 01 $", "columns ^01 ?", "columns a ^2000000000 01")

    def test_not_within_a_remark(self):
        self.assertEqual(loaded("columns a ; # ? 01 2000000000 \x00\xff"), [1, 1, 0, 0])


class NotAllowed(Faults):
    TOKENS = {"columns": "columns", "row": "row", "ask": "ask", "times": "times", "name": "a", "number": "1",
              ",": ",", ":": ":", ";": ";", "-": "-", "end": ""}
    ALLOWED_BEHIND = [
        ("", "columns"),
        ("columns", "name"),
        ("columns x", ", ;"),
        ("columns x,", "name"),
        ("columns x, y", ", ;"),
        ("columns x, y, z, w", ", ;"),
        ("columns x, y, z, w,", "name"),
        ("columns a ;", "row ask end"),
        ("columns a, b ;", "row ask end"),
        ("columns a ; row", "number"),
        ("columns a ; row 1", ":"),
        ("columns a, b ; row", "number"),
        ("columns a, b ; row 1", ","),
        ("columns a, b ; row 1,", "number"),
        ("columns a, b ; row 1, 2", ":"),
        ("columns a, b ; row 1, 2 :", "- number"),
        ("columns a, b ; row 1, 2 : -", "number"),
        ("columns a, b ; row 1, 2 : 3", ";"),
        ("columns a, b ; row 1, 2 : - 3", ";"),
        ("columns a, b ; row 1, 2 : 3 ;", "row ask end"),
        ("columns a, b, c, d ; row 1, 2, 3", ","),
        ("columns a, b, c, d ; row 1, 2, 3, 4", ":"),
        ("columns a, b ; ask", "name times ;"),
        ("columns a, b ; ask b", ", times ;"),
        ("columns a, b ; ask b,", "name"),
        ("columns a, b ; ask b, a", ", times ;"),
        ("columns a, b ; ask b, a,", "name"),
        ("columns a, b ; ask times", "number"),
        ("columns a, b ; ask times 3", ";"),
        ("columns a, b ; ask a times", "number"),
        ("columns a, b ; ask a times 3", ";"),
        ("columns a, b ; ask a times 3 ;", "row ask end"),
        ("columns a, b ; ask ;", "row ask end"),
    ]

    def test_each_token_at_each_place_of_the_grammar(self):
        for start, allowed in self.ALLOWED_BEHIND:
            for kind, written in self.TOKENS.items():
                for ending in ("", " ; row"):
                    if kind == "end" and ending:
                        continue
                    with self.subTest(start=start, kind=kind, ending=ending):
                        text = f"{start} {written}{ending}"
                        place = len(start) + 1
                        fault = [0, 3, place]
                        if kind in allowed.split(" "):
                            self.assertNotEqual(loaded(text), fault)
                        else:
                            self.assertEqual(loaded(text), fault)

    def test_an_empty_text(self):
        self.assertEqual(loaded(""), [0, 3, 0])

    def test_blanks_and_remarks_alone(self):
        for text in (" ", "\n\t ", "# columns a ;", "#"):
            with self.subTest(text=text):
                self.assertEqual(loaded(text), [0, 3, len(text)])

    def test_the_end_is_told_by_how_many_bytes_the_text_has(self):
        for text in ("columns", "columns a  ", "columns a, # b ;", "columns a ; row 1 : -\n\n",
                     "columns a ; ask a times"):
            with self.subTest(text=text):
                self.assertEqual(loaded(text), [0, 3, len(text)])

    def test_the_four_words_where_a_name_has_to_stand(self):
        for word in ("columns", "row", "ask", "times"):
            self.check(3, f"columns ^{word} ;", f"columns a, ^{word} ;", f"columns a ; ask a, ^{word} ;")

    def test_too_few_and_too_many_values(self):
        self.check(3, "columns a, b ; row 1 ^: 5 ;", "columns a, b ; row 1, 2^, 3 : 5 ;", "columns a ; row 1^, 2 : 5 ;",
                   "columns a, b ; row ^: 5 ;")

    def test_signs(self):
        self.check(3, "columns a ; row ^-1 : 5 ;", "columns a ; row 1 : -^-5 ;", "columns a ; ask times ^-1 ;",
                   "columns a ; row 1 : ^;", "columns a ; ask ^, a ;", "columns a ;^;", "columns ^; ")

    def test_a_second_head(self):
        self.check(3, "columns a ; ^columns b ;", "columns a ; row 1 : 1 ; ^columns b ;")

    def test_two_tokens_with_nothing_between(self):
        self.check(3, "columns ^1a ;", "columns a ; row 1^a : 1 ;", "columns a ; ask a times 3^times 4 ;")

    def test_as_many_names_as_columns_and_a_comma(self):
        self.check(3, "columns a ; ask a, ^;", "columns a, b, c, d ; ask a, b, c, d, ^times 2 ;")


class TooMany(Faults):
    def test_a_fifth_column(self):
        self.check(4, "columns a, b, c, d, ^e ;", "columns a, b, c, d, ^e, f ;", "columns a, b, c, d, ^e")

    def test_no_name_behind_the_fourth_comma(self):
        self.check(3, "columns a, b, c, d, ^;", "columns a, b, c, d,^", "columns a, b, c, d, ^row",
                   "columns a, b, c, d, ^5")

    def test_a_seventeenth_row(self):
        self.check(4, FULL_OF_ROWS + "^row 1, 2 : 3 ;", FULL_OF_ROWS + "ask a ; ^row", FULL_OF_ROWS + "^row row",
                   FULL_OF_ROWS + "^row 99, 2 : 3 ;")

    def test_a_ninth_question(self):
        self.check(4, FULL_OF_QUESTIONS + "^ask ;", FULL_OF_QUESTIONS + "row 1, 2 : 3 ; ^ask",
                   FULL_OF_QUESTIONS + "^ask ask", FULL_OF_QUESTIONS + "^ask x times 100 ;")

    def test_rows_and_questions_are_counted_by_themselves(self):
        self.check(4, FULL_OF_ROWS + "ask a ; " * 8 + "^row", FULL_OF_ROWS + "ask a ; " * 8 + "^ask")


class Names(Faults):
    def test_a_column_told_before(self):
        self.check(5, "columns a, ^a ;", "columns a, b, ^a ;", "columns a, b, c, ^b ;", "columns a, ^a, a ;",
                   "columns longname, x, ^longname ;", "columns a, ^a")

    def test_a_column_before_in_the_same_question(self):
        self.check(6, HEAD + "ask a, ^a ;", HEAD + "ask b, a, ^b ;", HEAD + "ask a ; ask b, ^b times 2 ;",
                   HEAD + "ask a, ^a, x ;", HEAD + "ask a, b, ^a")

    def test_no_column(self):
        self.check(8, HEAD + "ask ^c ;", HEAD + "ask a, ^c ;", HEAD + "ask ^c, c ;", HEAD + "ask a, b, ^c ;",
                   HEAD + "ask ^A ;", HEAD + "ask ^ab ;", HEAD + "ask ^x", HEAD + "ask ^c, a, a times 0 ;")


class OutOfBounds(Faults):
    def test_values(self):
        self.check(7, HEAD + "row ^10, 2 : 3 ;", HEAD + "row 1, ^10 : 3 ;", HEAD + "row 9, ^99 : 3 ;",
                   HEAD + "row ^10", HEAD + "row ^10, 11 : 1001 ;")

    def test_amounts(self):
        self.check(7, HEAD + "row 1, 2 : ^1001 ;", HEAD + "row 1, 2 : -^1001 ;", HEAD + "row 1, 2 : - # x\n ^1001 ;")

    def test_times(self):
        self.check(7, HEAD + "ask a times ^0 ;", HEAD + "ask a times ^100 ;", HEAD + "ask times ^0 ;",
                   HEAD + "ask times ^100", HEAD + "ask b, a times ^1000 ;")


class WhichComesFirst(Faults):
    def test_at_one_token_the_lesser(self):
        self.check(4, "columns a, b, c, d, ^a ;", "columns a, b, c, d, ^d ;")
        self.check(3, HEAD + "row ^x, 2 : 3 ;", HEAD + "ask a times ^a ;")

    def test_from_left_to_right(self):
        self.check(8, HEAD + "ask ^c ; ask a, a ; row 10, 2 : 3 ; row")
        self.check(7, HEAD + "row ^10, 2 : 3 ; ask c ; ask a, a ; row")
        self.check(6, HEAD + "ask a, ^a ; ask c ; row 10 ;")
        self.check(5, "columns a, ^a, b, c, d ; ask x ;")
        self.check(4, FULL_OF_ROWS + "^row 10 ; ask c ;")
        self.check(3, HEAD + "row 1 ^; row 10, 2 : 3 ; ask c ;")
        self.check(7, HEAD + "row 1, ^10 ; row 1, 2 : 3 ;")
