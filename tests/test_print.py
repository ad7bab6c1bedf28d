"""print: each sort's print, values that have none, lists that are no value."""

import unittest

from helper import ask, in_form, print_of


class PrintCase(unittest.TestCase):
    def prints(self, row, numbers, text):
        with self.subTest(row=row, numbers=numbers):
            self.assertEqual(print_of(row, *numbers), text)

    def none(self, row, *lists):
        for numbers in lists:
            self.prints(row, numbers, None)


class Prints(PrintCase):
    def test_empty_format(self):
        self.prints("", [], "")
        self.none("", [0], [1, 2])

    def test_literals(self):
        self.prints('"a" "\\"\\\\ ~"', [], 'a"\\ ~')
        self.none('"a"', [0])

    def test_numbers_with_zeros_in_front(self):
        self.prints("num 3 3", [0], "000")
        self.prints("num 3 3", [42], "042")
        self.prints("num 3 3", [999], "999")
        self.prints("num 4 4", [9999], "9999")
        self.prints("num 1 1", [0], "0")
        self.none("num 3 3", [1000], [9999])
        self.none("num 1 1", [10])

    def test_numbers_without_needless_zeros(self):
        self.prints("num 1 3", [0], "0")
        self.prints("num 1 3", [9], "9")
        self.prints("num 1 3", [999], "999")
        self.prints("num 2 3", [10], "10")
        self.prints("num 3 4", [9999], "9999")
        self.none("num 1 3", [1000])
        self.none("num 2 3", [0], [9], [1000])
        self.none("num 3 4", [99])

    def test_numbers_missing(self):
        self.none("num 1 3", [])
        self.none("num 1 3 num 1 3", [1], [])

    def test_words(self):
        self.prints("word 1 4", [1, 0], "a")
        self.prints("word 1 4", [4, 25, 24, 0, 1], "zyab")
        self.prints("word 2 2", [2, 7, 8], "hi")
        self.none("word 2 3", [1, 0], [4, 0, 0, 0, 0], [0], [], [2, 0], [2], [2, 0, 26], [2, 26, 0], [3, 0, 9999, 0])
        self.none("word 2 3", [2, 0, 0, 0], [3, 0, 0], [9999, 0, 0])

    def test_alternatives(self):
        self.prints('alt { "a" } { num 1 1 }', [0], "a")
        self.prints('alt { "a" } { num 1 1 }', [1, 5], "5")
        self.none('alt { "a" } { num 1 1 }', [], [2], [1], [0, 5], [2, 5], [1, 10])
        self.prints("alt { } { }", [0], "")
        self.prints("alt { } { }", [1], "")

    def test_optional_parts(self):
        self.prints('opt { "-" num 1 2 } "x"', [0], "x")
        self.prints('opt { "-" num 1 2 } "x"', [1, 12], "-12x")
        self.none('opt { "-" num 1 2 } "x"', [], [1], [2], [0, 12], [2, 12], [1, 100], [9999])
        self.prints("opt { }", [1], "")

    def test_repeats(self):
        row = 'rep ", " 1 3 { num 1 2 opt { "!" } }'
        self.prints(row, [1, 7, 0], "7")
        self.prints(row, [3, 7, 1, 18, 0, 9, 1], "7!, 18, 9!")
        self.none(row, [0], [], [1], [4, 1, 0, 1, 0, 1, 0, 1, 0], [2, 7, 0], [1, 7, 0, 7, 0], [2, 7, 0, 7], [9999])
        self.prints('"<" rep "," 0 2 { word 1 1 } ">"', [0], "<>")
        self.prints('"<" rep "," 0 2 { } ">"', [2], "<,>")
        self.prints('"<" rep "," 0 2 { } ">"', [1], "<>")
        self.prints('rep "" 4 4 { "ab" }', [4], "abababab")
        self.prints('rep "x" 0 0 { "ab" }', [0], "")
        self.none('rep "x" 0 0 { "ab" }', [1])

    def test_several_within_others(self):
        row = 'alt { opt { word 1 2 } "." } { rep "/" 2 2 { alt { num 2 2 } { "x" } } } num 1 4'
        self.prints(row, [0, 1, 2, 1, 2, 8], "bc.8")
        self.prints(row, [0, 0, 8], ".8")
        self.prints(row, [1, 2, 0, 5, 1, 1234], "05/x1234")
        self.none(row, [1, 2, 0, 5, 1], [1, 2, 0, 5, 1, 1234, 0], [1, 1, 0, 5, 1234], [0, 2, 8])

    def test_longest(self):
        row = 'rep "12345678" 4 4 { "abcdefgh" "abcdefgh" word 1 4 }'
        each = "abcdefghabcdefghzzzz"
        self.prints(row, [4] + [4, 25, 25, 25, 25] * 4, "12345678".join([each] * 4))


class WholeValues(PrintCase):
    def refused(self, *lists):
        for told in lists:
            with self.subTest(told=told):
                self.assertEqual(ask(("load", in_form("num 1 4")), ("print", told))[1], [-5])

    def test_how_many_does_not_fit(self):
        self.refused([], [1], [0, 1], [2, 1], [1, 1, 1], [-1], [-1, 1], [10**18], [-10**18, 5], [9999])

    def test_numbers_out_of_bounds(self):
        self.refused([1, -1], [1, 10000], [1, 10**18], [1, -10**18], [2, 1, -1], [3, 1, 10000, 1])

    def test_most_numbers(self):
        self.refused([61] + [0] * 61, [69] + [0] * 69)
        self.assertEqual(ask(("load", in_form("num 1 4")), ("print", [60] + [0] * 60))[1], [0])

    def test_whole_ones_are_not_refused(self):
        for told, answer in (([0], [0]), ([1, 0], [1, 1, 48]), ([1, 9999], [1, 4, 57, 57, 57, 57]), ([2, 9999, 0], [0])):
            self.assertEqual(ask(("load", in_form("num 1 4")), ("print", told))[1], answer)


if __name__ == "__main__":
    unittest.main()
