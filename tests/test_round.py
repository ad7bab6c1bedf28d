"""round: whether the scanning of a value's print is the value; -5, -4 and -7."""

import unittest

from helper import ask, in_form, round_of


class RoundCase(unittest.TestCase):
    def comes_back(self, row, *numbers):
        with self.subTest(row=row, numbers=numbers):
            self.assertEqual(round_of(row, *numbers), [1])

    def comes_back_as(self, row, numbers, others):
        with self.subTest(row=row, numbers=numbers):
            self.assertEqual(round_of(row, *numbers), [0, len(others)] + others)

    def refused(self, row, refusal, *lists):
        for told in lists:
            with self.subTest(row=row, told=told):
                self.assertEqual(ask(("load", in_form(row)), ("round", told))[1], [refusal])


class Round(RoundCase):
    def test_the_value(self):
        self.comes_back("")
        self.comes_back('"ab"')
        self.comes_back("num 3 3", 7)
        self.comes_back("num 1 2 num 1 2", 12, 3)
        self.comes_back("word 1 4 num 1 1", 3, 0, 1, 25, 0)
        self.comes_back('alt { "a" } { "b" }', 1)
        self.comes_back("opt { }", 1)
        self.comes_back('opt { "a" }', 0)
        self.comes_back('rep "" 0 4 { }', 4)
        self.comes_back('rep "," 0 4 { num 1 2 }', 3, 1, 22, 3)

    def test_another_one(self):
        self.comes_back_as("num 1 2 num 1 2", [1, 23], [12, 3])
        self.comes_back_as("word 1 2 word 1 2", [1, 0, 2, 1, 2], [2, 0, 1, 1, 2])
        self.comes_back_as('alt { "a" } { "a" }', [1], [0])
        self.comes_back_as("opt { }", [0], [1])
        self.comes_back_as("opt { num 1 1 } opt { num 1 1 }", [0, 1, 5], [1, 5, 0])
        self.comes_back_as('rep "" 0 4 { }', [2], [4])
        self.comes_back_as('rep "" 0 4 { opt { } }', [0], [4, 1, 1, 1, 1])
        self.comes_back_as('rep "" 1 3 { num 1 2 }', [2, 1, 23], [3, 1, 2, 3])

    def test_no_print(self):
        self.refused("num 1 2", -4, [0], [1, 100], [2, 1, 1], [60] + [0] * 60)
        self.refused("word 2 2", -4, [3, 2, 0, 26], [2, 1, 0], [2, 2, 0])
        self.refused("opt { }", -4, [1, 2], [2, 1, 0])
        self.refused("", -4, [1, 0])

    def test_lists_that_are_no_value(self):
        self.refused("num 1 2", -5, [], [1], [0, 1], [2, 1], [-1], [1, -1], [1, 10000], [61] + [0] * 61, [10**18])
        self.refused("num 1 2", -5, [1, 10**18], [1, -10**18], [-10**18], [69] + [0] * 69)

    def test_prints_of_twenty_four_and_twenty_five_bytes(self):
        row = 'rep "" 3 4 { "abcdefgh" } opt { "!" }'
        self.comes_back(row, 3, 0)
        self.refused(row, -7, [2, 3, 1], [2, 4, 0])
        self.refused("num 4 4 " * 7, -7, [7] + [1] * 7)
        self.comes_back("num 4 4 " * 6, *range(6))
        self.comes_back_as('"abcdefgh" "abcdefgh" "abcdef" num 1 1 alt { "." } { "." }', [7, 1], [7, 0])

    def test_which_refusal_comes_first(self):
        long = '"abcdefgh" ' * 4
        self.refused(long + "num 1 1", -5, [1, 10000], [2, 1], [])
        self.refused(long + "num 1 1", -4, [1, 10], [0], [2, 1, 1])
        self.refused("num 1 1 " + long, -4, [1, 10], [2, 1, 1])
        self.refused(long + "num 1 1", -7, [1, 9])
        self.assertEqual(ask(("round", [])), [[-8]])

    def test_after_put(self):
        answered = ask(("load", in_form("num 1 4")), ("put", [2, 1, 1, 2, 1, 1, 2]), ("round", [2, 1, 23]),
                       ("round", [2, 12, 3]), ("round", [1, 1]))
        self.assertEqual(answered[2:], [[0, 2, 12, 3], [1], [-4]])


if __name__ == "__main__":
    unittest.main()
