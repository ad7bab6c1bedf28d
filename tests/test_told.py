"""told: the source's values by their number, and their prints."""

import unittest

from helper import ask, in_form

SOURCE = in_form('num 1 2 opt { "!" }') + "value ( 5 0 ); value ( 500 0 ); value ( ); value ( 7 1 ); value ( 7 1 0 );"


class Told(unittest.TestCase):
    def told(self, source, number, answer):
        with self.subTest(source=source, number=number):
            self.assertEqual(ask(("load", source), ("told", number))[1], answer)

    def test_each_by_its_number(self):
        self.told(SOURCE, 0, [2, 5, 0, 1, 1, 53])
        self.told(SOURCE, 3, [2, 7, 1, 1, 2, 55, 33])

    def test_without_a_print(self):
        self.told(SOURCE, 1, [2, 500, 0, 0])
        self.told(SOURCE, 4, [3, 7, 1, 0, 0])

    def test_without_numbers(self):
        self.told(SOURCE, 2, [0, 0])
        self.told(in_form("") + "value ( );", 0, [0, 1, 0])
        self.told(in_form('"ab"') + "value ( );", 0, [0, 1, 2, 97, 98])

    def test_no_such_value(self):
        for number in (5, 6, -1, -5, 10**18, -10**18):
            self.told(SOURCE, number, [-3])
        for number in (0, 1, -1):
            self.told(in_form("num 1 1"), number, [-3])

    def test_first_and_last_of_six(self):
        source = in_form("num 1 4") + "".join(f"value ( {number} );" for number in (9, 8, 77, 6, 5, 9999))
        self.told(source, 0, [1, 9, 1, 1, 57])
        self.told(source, 5, [1, 9999, 1, 4, 57, 57, 57, 57])
        self.told(source, 6, [-3])

    def test_most_numerals(self):
        self.told(in_form("num 1 1") + "value ( " + "9999 " * 60 + ");", 0, [60] + [9999] * 60 + [0])

    def test_a_print_of_more_than_a_text(self):
        self.told(in_form('rep "" 4 4 { "abcdefgh" }') + "value ( 4 );", 0, [1, 4, 1, 32] + list(b"abcdefgh" * 4))

    def test_after_put(self):
        answered = ask(("load", SOURCE), ("put", [1, 1, 3, 3]), ("told", 0), ("told", 1), ("told", 2), ("put", [0]),
                       ("told", 2), ("told", 4), ("told", 5))
        self.assertEqual(answered[2:5], [[2, 5, 0, 0], [2, 500, 0, 0], [0, 0]])
        self.assertEqual(answered[6:], [[0, 1, 0], [3, 7, 1, 0, 0], [-3]])
        answered = ask(("load", in_form("num 1 1") + "value ( 42 );"), ("told", 0), ("put", [1, 1, 4, 4]), ("told", 0))
        self.assertEqual(answered[1::2], [[1, 42, 0], [1, 42, 1, 4, 48, 48, 52, 50]])

    def test_after_another_load(self):
        answered = ask(("load", SOURCE), ("load", in_form("") + "value ( 3 );"), ("told", 0), ("told", 1))
        self.assertEqual(answered[2:], [[1, 3, 0], [-3]])


if __name__ == "__main__":
    unittest.main()
