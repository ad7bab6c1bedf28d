"""ways: how many scannings a text has, too long texts."""

import unittest

from helper import ask, in_form, ways_of


class WaysCase(unittest.TestCase):
    def ways(self, row, text, count):
        with self.subTest(row=row, text=text):
            self.assertEqual(ways_of(row, text), count)


class NoneOrOne(WaysCase):
    def test_none(self):
        for row, text in (('"ab"', "a"), ('"ab"', ""), ("num 1 1", ""), ("num 1 1", "12"), ("", "x"), ("word 2 3", "a")):
            self.ways(row, text, 0)
        self.ways("num 1 3", "01", 0)
        self.ways("num 2 2 num 1 1", "12", 0)
        self.ways('rep "," 1 2 { num 1 1 }', "1,", 0)
        self.ways('alt { "a" } { "b" } opt { "c" }', "cc", 0)

    def test_one(self):
        self.ways("", "", 1)
        self.ways('"ab"', "ab", 1)
        self.ways("num 3 3", "007", 1)
        self.ways("word 1 4", "zzzz", 1)
        self.ways('alt { "a" } { "b" }', "b", 1)
        self.ways('opt { "a" }', "", 1)
        self.ways('rep "," 0 4 { word 1 2 }', "a,bc", 1)
        self.ways('rep "" 0 0 { }', "", 1)

    def test_needless_zeros_part_in_one_way(self):
        self.ways("num 1 2 num 1 2", "100", 1)
        self.ways("num 1 2 num 2 2", "100", 1)
        self.ways("num 1 2 num 1 2", "00", 1)


class Many(WaysCase):
    def test_numbers(self):
        self.ways("num 1 2 num 1 2", "123", 2)
        self.ways("num 1 3 num 1 3 num 1 3", "12345", 6)
        self.ways("num 1 4 num 3 3", "1234567", 1)
        self.ways("num 1 4 " * 8, "1" * 24, 3823)
        self.ways("num 1 4 " * 8, "1" * 8, 1)

    def test_words(self):
        self.ways("word 1 3 word 1 3", "abcd", 3)
        self.ways("word 1 4 " * 8, "z" * 24, 3823)
        self.ways('word 1 2 "a" word 1 2', "aaa", 1)
        self.ways('word 1 2 "a" word 1 2', "aaaa", 2)

    def test_alternatives(self):
        self.ways('alt { "a" } { "a" }', "a", 2)
        self.ways("alt { num 1 2 } { num 1 3 }", "12", 2)
        self.ways("alt { num 1 2 } { num 1 3 }", "123", 1)
        self.ways("alt { } { }", "", 2)
        self.ways("alt { } { } " * 8, "", 256)
        self.ways('alt { } { "a" } alt { "a" } { }', "a", 2)
        self.ways('alt { alt { } { } } { "a" } "b"', "b", 2)

    def test_optional_parts(self):
        self.ways("opt { }", "", 2)
        self.ways("opt { } " * 8, "", 256)
        self.ways('opt { "a" } opt { "a" } opt { "a" }', "a", 3)
        self.ways('opt { "a" } opt { "a" } opt { "a" }', "aa", 3)
        self.ways("opt { alt { } { } }", "", 3)
        self.ways("opt { opt { opt { } } }", "", 4)

    def test_repeats_of_rows_that_print_nothing(self):
        self.ways('rep "" 0 4 { }', "", 5)
        self.ways('rep "" 2 3 { }', "", 2)
        self.ways('rep "," 0 4 { }', "", 2)
        self.ways('rep "," 0 4 { }', ",", 1)
        self.ways('rep "," 0 4 { }', ",,,,", 0)
        self.ways('rep "" 0 4 { opt { } }', "", 31)
        self.ways('rep "" 0 4 { alt { } { } } opt { } alt { } { } opt { }', "", 248)
        self.ways('rep "" 0 0 { opt { } alt { } { } }', "", 1)

    def test_repeats(self):
        self.ways('rep "" 2 3 { opt { "a" } }', "a", 5)
        self.ways('rep "" 0 4 { "a" } rep "" 0 4 { "a" }', "aaaaa", 4)
        self.ways('rep "" 1 4 { num 1 4 }', "1111", 8)
        self.ways('rep "1" 1 3 { num 1 3 }', "111", 2)
        self.ways('rep "1" 1 3 { num 1 3 }', "11111", 4)

    def test_pieces_behind_and_within(self):
        self.ways("opt { num 1 2 } num 1 3", "123", 3)
        self.ways('rep "" 1 2 { num 1 2 opt { num 1 1 } }', "12", 3)


class TextLength(WaysCase):
    def test_twenty_four_and_twenty_five(self):
        row = 'rep "" 0 4 { "abcdefgh" }'
        self.ways(row, "abcdefgh" * 3, 1)
        self.ways(row, "abcdefgh" * 3 + "a", -1)
        self.ways('rep "" 0 4 { "abcdefg" }', "abcdefg" * 4, -1)
        self.ways("", "x" * 25, -1)
        self.ways("", "x" * 24, 0)
        self.ways("", [255] * 30, -1)

    def test_bytes_that_stand_in_no_print(self):
        for byte in (0, 9, 10, 31, 127, 128, 255):
            for row in ('"a"', "num 1 1", "word 1 1", "opt { }", 'rep "" 0 4 { }'):
                self.ways(row, [byte], 0)

    def test_the_empty_text(self):
        self.assertEqual(ask(("load", in_form("opt { num 1 1 }")), ("ways", ""), ("ways", []))[1:], [[1], [1]])


if __name__ == "__main__":
    unittest.main()
