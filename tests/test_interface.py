"""The document's example, the layout of calls and answers, refusals' order, nothing kept."""

import unittest

from formattexts.scanning import answers
from helper import ask, in_form, line_of, split

EXAMPLE = 'format { "x=" num 1 3 opt { ";" word 2 2 } } value ( 42 1 2 0 25 ); value ( 7 0 );'

# Every call that asks for a source, each answered by the example's; put, which changes it, stands last.
EVERY_CALL = ["shown", "format", ("print", [2, 7, 0]), ("scan", "x=7;ab"), ("ways", "x=7;ab"), ("told", 1), "lengths",
              ("round", [2, 7, 0]), ("put", [2, 0, 1, 59, 1, 1, 1])]


class Example(unittest.TestCase):
    def test_example(self):
        answered = ask(("load", EXAMPLE), ("told", 0), ("scan", "x=7;ab"), ("ways", "x=7;ab"), "lengths",
                       ("print", [2, 7, 0]), ("print", [2, 1000, 0]), ("round", [2, 7, 0]),
                       ("put", [2, 1, 1, 2, 1, 1, 2]), ("ways", "123"), ("round", [2, 1, 23]))
        self.assertEqual(answered, [
            [0, 5, 3, 2],
            [5, 42, 1, 2, 0, 25, 1, 7, 120, 61, 52, 50, 59, 97, 122],
            [1, 5, 7, 1, 2, 0, 1],
            [1],
            [3, 8],
            [1, 3, 120, 61, 55],
            [0],
            [1],
            [2, 2],
            [2],
            [0, 2, 12, 3],
        ])


class Layout(unittest.TestCase):
    def test_numbers_by_numbers(self):
        source = list(b'format { "a" }')
        loaded = answers([0, 14] + source)
        self.assertEqual(loaded, [4, 0, 1, 0, 0])
        calls = [0, 14] + source + [1, 2, 3, 1, 0, 4, 1, 97, 4, 0]
        shown = [16, 15] + source + [10]
        as_numbers = [4, 1, 0, 1, 97]
        printed = [3, 1, 1, 97]
        scanned = [2, 1, 0]
        no_scanning = [1, 0]
        self.assertEqual(answers(calls), loaded + shown + as_numbers + printed + scanned + no_scanning)

    def test_the_later_calls_number_by_number(self):
        source = list(b"format{alt{}{}}value(1);")
        calls = [0, 24] + source + [5, 0, 5, 1, 97, 6, 0, 6, 1, 7, 8, 2, 1, 0, 8, 2, 1, 1, 9, 4, 1, 1, 2, 3, 9, 0, 7]
        loaded = [4, 0, 1, 1, 1]
        ways = [1, 2, 1, 0]
        told = [4, 1, 1, 1, 0, 1, -3]
        lengths = [2, 0, 0]
        rounds = [1, 1, 3, 0, 1, 0]
        put = [2, 1, 1, 1, -5, 2, 2, 3]
        self.assertEqual(answers(calls), loaded + ways + told + lengths + rounds + put)

    def test_refusals_are_their_number_alone(self):
        self.assertEqual(answers([1, 2]), [1, -8, 1, -8])
        self.assertEqual(answers([0, 1201] + [32] * 1201), [1, -1])
        self.assertEqual(answers([5, 0, 6, 10**18, 7, 8, 1, -10**18, 9, 0]), [1, -8] * 5)

    def test_empty_lists(self):
        self.assertEqual(answers([0, 0]), [3, 1, 2, 0])
        self.assertEqual(answers([3, 0, 4, 0]), [1, -8, 1, -8])
        self.assertEqual(answers([5, 0, 8, 0, 9, 0]), [1, -8] * 3)

    def test_fifteen_calls(self):
        calls = [("load", EXAMPLE)] + [("print", [2, number, 0]) for number in range(14)]
        answered = ask(*calls)
        self.assertEqual(len(answered), 15)
        self.assertEqual(answered[-1], [1, 4, 120, 61, 49, 51])

    def test_fifteen_calls_with_every_call(self):
        answered = ask("lengths", ("load", EXAMPLE), *EVERY_CALL, ("load", " " * 1300), *EVERY_CALL[:3])
        self.assertEqual(len(answered), 15)
        self.assertEqual(answered[:2], [[-8], [0, 5, 3, 2]])
        self.assertEqual(answered[4:11], [[1, 3, 120, 61, 55], [1, 5, 7, 1, 2, 0, 1], [1],
                                          [2, 7, 0, 1, 3, 120, 61, 55], [3, 8], [1], [2, 1]])
        self.assertEqual(answered[11], [-1])
        self.assertEqual(bytes(answered[12][1:]), b'format { ";" num 1 1 }\nvalue ( 42 1 2 0 25 );\nvalue ( 7 0 );\n')
        self.assertEqual(answered[13:], [[2, 0, 1, 59, 1, 1, 1], [0]])

    def test_only_whole_numbers(self):
        line = line_of(("load", EXAMPLE), *EVERY_CALL, ("scan", "y"), ("round", [1, 7]), ("put", []), ("told", -1))
        answered = answers(line)
        self.assertIs(type(answered), list)
        self.assertEqual({type(number) for number in answered}, {int})


class Refusals(unittest.TestCase):
    def test_without_a_source(self):
        for call in EVERY_CALL + [("print", [0]), ("scan", ""), ("ways", ""), ("round", [0]), ("put", [0])]:
            self.assertEqual(ask(call), [[-8]])
            self.assertEqual(ask(("load", "format"), call), [[1, 2, 6], [-8]])
            self.assertEqual(ask(("load", " " * 1201), call), [[-1], [-8]])

    def test_without_a_source_ahead_of_the_others(self):
        refused = [("print", []), ("print", [61]), ("print", [1, -1]), ("scan", "x" * 25), ("ways", "x" * 25)]
        refused += [("round", []), ("round", [61]), ("told", -1), ("told", 10**18), ("put", []), ("put", [9] * 200)]
        for call in refused:
            self.assertEqual(ask(call), [[-8]])

    def test_a_refusal_changes_nothing(self):
        calls = [("load", EXAMPLE), "shown"]
        refused = [("print", [9]), ("scan", "x" * 30), ("load", " " * 1300), ("load", "format"), ("ways", "x" * 25),
                   ("told", 2), ("round", [9]), ("round", [1, 7]), ("put", [1, 1, 1])]
        answered = ask(*calls, *refused, "shown", "format", ("scan", "x=7"))
        self.assertEqual(answered[2:11], [[-5], [-1], [-1], [1, 2, 6], [-1], [-3], [-5], [-4], [-5]])
        self.assertEqual(answered[11], answered[1])
        self.assertEqual(answered[13], [1, 2, 7, 0])

    def test_only_load_and_put_change_anything(self):
        asked = EVERY_CALL[:-1]
        former = ask(("load", EXAMPLE), *asked)
        for call in asked:
            self.assertEqual(ask(("load", EXAMPLE), call, call, *asked)[3:], former[1:])


class NothingKept(unittest.TestCase):
    LINE = line_of(("load", EXAMPLE), *EVERY_CALL, "shown", ("load", "format"), ("put", [1]))

    def test_what_was_handed_in_stays(self):
        line = list(self.LINE)
        answers(line)
        self.assertEqual(line, self.LINE)

    def test_asked_twice_answers_the_same(self):
        first = answers(list(self.LINE))
        first_copy = list(first)
        self.assertEqual(answers(list(self.LINE)), first_copy)
        self.assertEqual(first, first_copy)

    def test_each_line_has_a_new_object(self):
        answers(list(self.LINE))
        self.assertEqual(answers([1]), [1, -8])
        self.assertEqual(answers([9, 1, 0]), [1, -8])

    def test_an_answer_that_is_changed_by_who_asked(self):
        line = line_of(("load", in_form('"abc"')), "format", ("print", [0]))
        first = answers(line)
        while first:
            first.pop()
        self.assertEqual(split(answers(line))[1:], [[1, 0, 3, 97, 98, 99], [1, 3, 97, 98, 99]])


if __name__ == "__main__":
    unittest.main()
