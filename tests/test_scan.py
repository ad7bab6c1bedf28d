"""scan: the first scanning in the order told, texts that have none, too long texts."""

import unittest

from helper import ask, in_form, print_of, scanning_of


class ScanCase(unittest.TestCase):
    def scans(self, row, text, *numbers):
        with self.subTest(row=row, text=text):
            self.assertEqual(scanning_of(row, text), list(numbers))
            self.assertEqual(print_of(row, *numbers), text)

    def none(self, row, *texts):
        for text in texts:
            with self.subTest(row=row, text=text):
                self.assertIsNone(scanning_of(row, text))


class OneScanning(ScanCase):
    def test_empty_format(self):
        self.scans("", "")
        self.none("", " ", "x")

    def test_literals(self):
        self.scans('"ab" "\\"\\\\"', 'ab"\\')
        self.none('"ab" "c"', "", "ab", "abcd", "abd", "ABc", "bc", " abc")

    def test_numbers_with_zeros_in_front(self):
        self.scans("num 3 3", "000", 0)
        self.scans("num 3 3", "042", 42)
        self.scans("num 4 4", "9999", 9999)
        self.none("num 3 3", "", "42", "0042", "04a", "-42", " 42", "4/2", "4:2")

    def test_numbers_without_needless_zeros(self):
        self.scans("num 1 3", "0", 0)
        self.scans("num 1 3", "100", 100)
        self.scans("num 2 3", "10", 10)
        self.none("num 1 3", "00", "01", "042", "1000", "", "x")
        self.none("num 2 3", "0", "5", "05", "00", "005", "1000")

    def test_words(self):
        self.scans("word 1 4", "z", 1, 25)
        self.scans("word 2 4", "abcz", 4, 0, 1, 2, 25)
        self.none("word 2 3", "", "a", "abcd", "aB", "a1", "a`", "a{")

    def test_alternatives(self):
        self.scans('alt { "a" num 1 1 } { "a" word 1 1 } "."', "a5.", 0, 5)
        self.scans('alt { "a" num 1 1 } { "a" word 1 1 } "."', "af.", 1, 1, 5)
        self.none('alt { "a" } { "b" }', "", "c", "ab")

    def test_optional_parts(self):
        self.scans('opt { "-" } num 1 1', "-5", 1, 5)
        self.scans('opt { "-" } num 1 1', "5", 0, 5)
        self.none('opt { "-" } num 1 1', "--5", "-")

    def test_repeats(self):
        row = '"<" rep ", " 1 3 { num 1 2 } ">"'
        self.scans(row, "<1>", 1, 1)
        self.scans(row, "<1, 22, 3>", 3, 1, 22, 3)
        self.none(row, "<>", "<1, >", "<, 1>", "<1,2>", "<1, 2, 3, 4>", "<1, 22, 333>", "<12 >")
        self.scans('rep "" 0 0 { "x" }', "", 0)
        self.none('rep "," 2 2 { "x" }', "x", "x,x,x", ",")

    def test_bytes_that_stand_in_no_print(self):
        for byte in (0, 9, 10, 31, 127, 128, 200, 255):
            for row in ('"a"', "num 1 1", "word 1 1", ""):
                with self.subTest(byte=byte, row=row):
                    self.assertEqual(ask(("load", in_form(row)), ("scan", [byte]))[1], [0])
        self.assertEqual(ask(("load", in_form('"a"')), ("scan", [97, 10]))[1], [0])


class FirstScanning(ScanCase):
    def test_longer_numbers_first(self):
        self.scans("num 1 2 num 1 2", "123", 12, 3)
        self.scans("num 1 2 num 1 2 num 1 2", "1234", 12, 3, 4)
        self.scans("num 1 2 num 1 2", "100", 10, 0)
        self.none("num 1 2 num 2 3", "1000")
        self.scans("num 1 4 num 2 2", "12345", 123, 45)
        self.scans("num 1 4 num 2 2", "100", 1, 0)

    def test_longer_words_first(self):
        self.scans("word 1 4 word 1 4", "abcde", 4, 0, 1, 2, 3, 1, 4)
        self.scans('word 1 4 "d" word 1 1', "adde", 2, 0, 3, 1, 4)
        self.scans('word 1 3 "a"', "aaa", 2, 0, 0)

    def test_first_alternative_first(self):
        self.scans("alt { num 1 2 } { num 1 3 }", "12", 0, 12)
        self.scans("alt { num 1 2 } { num 1 3 }", "123", 1, 123)
        self.scans('alt { "a" } { "ab" } alt { "bc" } { "c" }', "abc", 0, 0)
        self.scans('alt { "a" } { "ab" } "c"', "abc", 1)
        self.scans("alt { num 1 1 } { num 2 2 } opt { num 1 1 }", "12", 0, 1, 1, 2)
        self.scans("alt { } { }", "", 0)

    def test_there_first(self):
        self.scans("opt { num 1 1 } opt { num 1 1 }", "5", 1, 5, 0)
        self.scans("opt { num 1 1 } num 1 1", "5", 0, 5)
        self.scans("opt { num 1 1 } num 1 2", "12", 1, 1, 2)
        self.scans("opt { }", "", 1)
        self.scans("opt { opt { } } opt { }", "", 1, 1, 1)
        self.scans("opt { alt { } { } }", "", 1, 0)

    def test_more_times_first(self):
        self.scans('rep "" 1 3 { num 1 2 }', "12", 2, 1, 2)
        self.scans('rep "" 1 3 { num 1 2 }', "1234", 3, 12, 3, 4)
        self.scans('rep "" 0 4 { "a" } rep "" 0 4 { "a" }', "aaaaa", 4, 1)
        self.scans('rep "" 0 4 { "a" } "aa"', "aaa", 1)

    def test_repeats_of_rows_that_print_nothing(self):
        self.scans('rep "" 0 4 { }', "", 4)
        self.scans('rep "" 2 3 { opt { } }', "", 3, 1, 1, 1)
        self.scans('rep "" 0 3 { opt { "a" } }', "a", 3, 1, 0, 0)
        self.scans('rep "" 0 3 { opt { "a" } }', "", 3, 0, 0, 0)
        self.scans('rep "," 0 3 { opt { "a" } }', "", 1, 0)
        self.scans('rep "," 0 3 { opt { "a" } }', ",a", 2, 0, 1)
        self.scans('rep "," 0 4 { }', ",,", 3)
        self.scans('rep "," 2 4 { }', ",", 2)
        self.none('rep "," 2 4 { }', "", ",,,,")

    def test_within_a_repeat_time_by_time(self):
        row = 'rep "" 2 2 { num 1 2 opt { num 1 1 } }'
        self.scans(row, "1234", 2, 12, 1, 3, 4, 0)
        self.scans(row, "123", 2, 12, 0, 3, 0)
        self.scans('rep "" 2 2 { opt { "a" } opt { "b" } }', "b", 2, 0, 1, 0, 0)
        self.scans('rep "" 2 3 { alt { "a" } { "ab" } opt { "b" } }', "abab", 2, 0, 1, 0, 1)

    def test_own_pieces_ahead_of_what_stands_behind(self):
        self.scans("opt { num 1 2 } num 1 3", "1234", 1, 12, 34)
        self.scans("alt { num 1 2 opt { num 1 1 } } { } num 1 4", "1234", 0, 12, 1, 3, 4)
        self.scans("opt { num 1 2 opt { num 1 1 } } num 1 2", "123", 1, 12, 0, 3)

    def test_a_beginning_that_leads_nowhere(self):
        self.scans('alt { num 1 4 "x" } { num 1 4 "y" }', "1234y", 1, 1234)
        self.scans('opt { word 1 4 "." } word 1 4', "abcd", 0, 4, 0, 1, 2, 3)
        self.scans('rep "," 1 4 { word 1 2 } ",end"', "a,bb,end", 2, 1, 0, 2, 1, 1)
        self.none('opt { num 1 4 "." } num 1 4', "1234.", "1.2.3")


class TextLength(ScanCase):
    def test_most_bytes(self):
        row = 'rep "" 0 3 { "abcdefgh" }'
        self.scans(row, "abcdefgh" * 3, 3)
        self.assertEqual(ask(("load", in_form(row)), ("scan", "abcdefgh" * 3 + "a"))[1], [-1])
        self.assertEqual(ask(("load", in_form('rep "" 4 4 { "abcdefg" }')), ("scan", "abcdefg" * 4))[1], [-1])
        self.assertEqual(ask(("load", in_form(row)), ("scan", [255] * 25), ("scan", [255] * 24))[1:], [[-1], [0]])
        self.assertEqual(ask(("load", in_form(row)), ("scan", [0] * 30))[1], [-1])

    def test_many_ways(self):
        self.scans("num 1 4 " * 8, "1" * 24, 1111, 1111, 1111, 1111, 1111, 11, 1, 1)
        self.none("num 1 4 " * 8, "1" * 23 + "x", "0" * 24, "1" * 7)
        self.scans("word 1 4 " * 8, "a" * 8, *[1, 0] * 8)


if __name__ == "__main__":
    unittest.main()
