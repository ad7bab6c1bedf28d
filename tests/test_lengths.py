"""lengths: the shortest print's length and the longest one's."""

import unittest

from helper import ask, in_form, lengths_of


class Lengths(unittest.TestCase):
    def lengths(self, row, shortest, longest):
        with self.subTest(row=row):
            self.assertEqual(lengths_of(row), [shortest, longest])

    def test_rows_without_pieces(self):
        for row in ("", "opt { }", "alt { } { }", 'rep "" 0 4 { }', "opt { alt { } { opt { } } }"):
            self.lengths(row, 0, 0)

    def test_literals_numbers_and_words(self):
        self.lengths('"a"', 1, 1)
        self.lengths('"12345678" "\\"\\\\"', 10, 10)
        self.lengths("num 1 4", 1, 4)
        self.lengths("num 3 3", 3, 3)
        self.lengths("word 2 3", 2, 3)
        self.lengths('num 1 2 "." word 3 4', 5, 7)

    def test_alternatives(self):
        self.lengths('alt { "abc" } { num 1 1 }', 1, 3)
        self.lengths('alt { num 1 1 } { "abc" }', 1, 3)
        self.lengths('alt { "abc" } { }', 0, 3)
        self.lengths("alt { num 1 4 } { word 2 3 }", 1, 4)
        self.lengths("alt { num 2 3 } { word 1 4 }", 1, 4)
        self.lengths('alt { "ab" } { alt { "abcd" } { "abc" } } "x"', 3, 5)

    def test_optional_parts(self):
        self.lengths('opt { "abc" }', 0, 3)
        self.lengths('opt { num 2 4 } "x"', 1, 5)
        self.lengths('opt { opt { "ab" } "c" }', 0, 3)

    def test_repeats(self):
        self.lengths('rep "," 0 0 { "abc" }', 0, 0)
        self.lengths('rep "," 0 1 { "abc" }', 0, 3)
        self.lengths('rep "," 1 1 { "abc" }', 3, 3)
        self.lengths('rep "," 1 2 { "abc" }', 3, 7)
        self.lengths('rep "--" 2 4 { num 1 3 }', 4, 18)
        self.lengths('rep "" 3 4 { word 2 2 }', 6, 8)
        self.lengths('rep "12345678" 0 4 { }', 0, 24)
        self.lengths('rep "12345678" 4 4 { }', 24, 24)
        self.lengths('rep "," 2 3 { opt { "ab" } }', 1, 8)
        self.lengths('rep "," 2 3 { alt { "ab" } { "c" } }', 3, 8)

    def test_within_others(self):
        self.lengths('opt { rep ", " 2 2 { alt { num 2 2 } { "x" } } } "."', 1, 7)
        self.lengths('alt { rep "," 0 2 { "a" } } { rep "," 1 1 { "abcd" } }', 0, 4)

    def test_longer_than_a_text_may_be(self):
        row = 'rep "12345678" 4 4 { ' + '"abcdefgh" ' * 13 + "}"
        self.lengths(row, 440, 440)

    def test_after_put(self):
        answered = ask(("load", in_form('"abc"')), "lengths", ("put", [1, 5, 2, 44, 32, 1, 3, 1, 1, 1, 4]), "lengths")
        self.assertEqual(answered[1::2], [[3, 3], [1, 16]])


if __name__ == "__main__":
    unittest.main()
