"""The document's example, the layout of calls and answers, refusals' order, nothing kept."""

import unittest

from formattexts.scanning import answers
from helper import ask, in_form, line_of, split

EXAMPLE = 'format { "x=" num 1 3 opt { ";" word 2 2 } } value ( 42 1 2 0 25 ); value ( 7 0 );'


class Example(unittest.TestCase):
    def test_example(self):
        answered = ask(("load", EXAMPLE), ("scan", "x=7;ab"), ("print", [2, 7, 0]), ("print", [2, 1000, 0]),
                       ("print", [5, 42, 1, 2, 0, 25]))
        self.assertEqual(answered[0], [0, 5, 3, 2])
        self.assertEqual(answered[1], [1, 5, 7, 1, 2, 0, 1])
        self.assertEqual(answered[2], [1, 3, 120, 61, 55])
        self.assertEqual(answered[3], [0])
        self.assertEqual(answered[4], [1, 7, 120, 61, 52, 50, 59, 97, 122])


class Layout(unittest.TestCase):
    def test_numbers_by_numbers(self):
        source = list(b'format { "a" }')
        loaded = answers([0, 14] + source)
        self.assertEqual(loaded, [4, 0, 1, 0, 0])
        calls = [0, 14] + source + [1, 2, 3, 1, 0, 4, 1, 97, 4, 0]
        shown = [16, 15] + source + [10]
        as_numbers = [4, 1, 0, 1, 97]
        printed = [3, 1, 1, 97]
        scanned = [2, 1, 0]
        no_scanning = [1, 0]
        self.assertEqual(answers(calls), loaded + shown + as_numbers + printed + scanned + no_scanning)

    def test_refusals_are_their_number_alone(self):
        self.assertEqual(answers([1, 2]), [1, -8, 1, -8])
        self.assertEqual(answers([0, 1201] + [32] * 1201), [1, -1])

    def test_empty_lists(self):
        self.assertEqual(answers([0, 0]), [3, 1, 2, 0])
        self.assertEqual(answers([3, 0, 4, 0]), [1, -8, 1, -8])

    def test_fifteen_calls(self):
        calls = [("load", EXAMPLE)] + [("print", [2, number, 0]) for number in range(14)]
        answered = ask(*calls)
        self.assertEqual(len(answered), 15)
        self.assertEqual(answered[-1], [1, 4, 120, 61, 49, 51])

    def test_a_call_that_is_not_there_yet(self):
        with self.assertRaises(ValueError):
            answers([7])

    def test_only_whole_numbers(self):
        line = line_of(("load", EXAMPLE), "shown", "format", ("print", [2, 7, 0]), ("scan", "x=7;ab"), ("scan", "y"))
        answered = answers(line)
        self.assertIs(type(answered), list)
        self.assertEqual({type(number) for number in answered}, {int})


class Refusals(unittest.TestCase):
    def test_without_a_source(self):
        for call in ("shown", "format", ("print", [0]), ("scan", "")):
            self.assertEqual(ask(call), [[-8]])

    def test_without_a_source_ahead_of_the_others(self):
        for call in (("print", []), ("print", [61]), ("print", [1, -1]), ("scan", "x" * 25)):
            self.assertEqual(ask(call), [[-8]])

    def test_a_refusal_changes_nothing(self):
        calls = [("load", EXAMPLE), "shown"]
        refused = [("print", [9]), ("scan", "x" * 30), ("load", " " * 1300), ("load", "format")]
        answered = ask(*calls, *refused, "shown", "format", ("scan", "x=7"))
        self.assertEqual(answered[2:6], [[-5], [-1], [-1], [1, 2, 6]])
        self.assertEqual(answered[6], answered[1])
        self.assertEqual(answered[8], [1, 2, 7, 0])

    def test_a_print_or_a_scan_changes_nothing(self):
        asked = ["shown", "format", ("print", [2, 7, 0]), ("scan", "x=7;ab")]
        answered = ask(("load", EXAMPLE), *asked, *asked, *asked)
        self.assertEqual(answered[1:5], answered[5:9])
        self.assertEqual(answered[1:5], answered[9:13])


class NothingKept(unittest.TestCase):
    LINE = line_of(("load", EXAMPLE), "shown", "format", ("print", [2, 7, 0]), ("scan", "x=7;ab"), ("load", "format"))

    def test_what_was_handed_in_stays(self):
        line = list(self.LINE)
        answers(line)
        self.assertEqual(line, self.LINE)

    def test_asked_twice_answers_the_same(self):
        first = answers(list(self.LINE))
        first_copy = list(first)
        self.assertEqual(answers(list(self.LINE)), first_copy)
        self.assertEqual(first, first_copy)

    def test_each_line_has_a_new_object(self):
        answers(list(self.LINE))
        self.assertEqual(answers([1]), [1, -8])

    def test_an_answer_that_is_changed_by_who_asked(self):
        line = line_of(("load", in_form('"abc"')), "format", ("print", [0]))
        first = answers(line)
        while first:
            first.pop()
        self.assertEqual(split(answers(line))[1:], [[1, 0, 3, 97, 98, 99], [1, 3, 97, 98, 99]])


if __name__ == "__main__":
    unittest.main()
