"""put: formats handed over as numbers, lists that are none, what follows in the other calls."""

import unittest

from helper import ask, in_form

FORMER = 'format { "a" num 1 2 }\nvalue ( 5 );\nvalue ( 1 2 3 );\n'
CALLS_BEHIND = ["shown", "format", "lengths", ("scan", "a7"), ("ways", "a7"), ("told", 0), ("print", [1, 7]),
                ("round", [1, 7])]

# A piece of each sort, and rows around pieces.
LITERAL = [0, 1, 120]
NUMBER = [1, 1, 4]
WORD = [2, 2, 3]


def row(*pieces):
    return [len(pieces)] + [number for piece in pieces for number in piece]


def alternatives(first, second):
    return [3] + first + second


def optional(inner):
    return [4] + inner


def repeat(lo, hi, inner, separator=()):
    return [5, len(separator)] + list(separator) + [lo, hi] + inner


def nested(depth, inner):
    """Optional parts within one another, that many."""
    for each in range(depth):
        inner = row(optional(inner))
    return inner


def behind(numbers, *calls):
    """The answers to put and to these calls behind it."""
    return ask(("load", FORMER), ("put", numbers), *calls)[1:]


class PutCase(unittest.TestCase):
    def good(self, numbers, pieces, gone):
        with self.subTest(numbers=numbers):
            self.assertEqual(behind(numbers, "format"), [[pieces, gone], numbers])

    def refused(self, *lists):
        for numbers in lists:
            with self.subTest(numbers=numbers):
                self.assertEqual(behind(numbers), [[-5]])

    def put_as(self, numbers, form, shortest, longest):
        """What is told of the format is what is told of it when it's loaded."""
        with self.subTest(form=form):
            answered = behind(numbers, "format", "shown", "lengths")
            loaded = ask(("load", "format " + form), "format", "lengths")
            self.assertEqual(answered[0], loaded[0][1:3])
            self.assertEqual(answered[1], numbers)
            self.assertEqual(answered[1], loaded[1])
            self.assertEqual(bytes(answered[2][1:]).decode(), "format " + form + "\nvalue ( 5 );\nvalue ( 1 2 3 );\n")
            self.assertEqual(answered[3], [shortest, longest])
            self.assertEqual(answered[3], loaded[2])


class EachSort(PutCase):
    def test_each_by_itself(self):
        self.put_as([0], "{ }", 0, 0)
        self.put_as([1, 0, 2, 120, 61], '{ "x=" }', 2, 2)
        self.put_as([1, 1, 1, 4], "{ num 1 4 }", 1, 4)
        self.put_as([1, 2, 2, 3], "{ word 2 3 }", 2, 3)
        self.put_as([1, 3, 0, 0], "{ alt { } { } }", 0, 0)
        self.put_as([1, 3, 1, 0, 1, 97, 1, 1, 2, 2], '{ alt { "a" } { num 2 2 } }', 1, 2)
        self.put_as([1, 4, 1, 2, 1, 1], "{ opt { word 1 1 } }", 0, 1)
        self.put_as([1, 5, 2, 44, 32, 0, 4, 1, 1, 1, 2], '{ rep ", " 0 4 { num 1 2 } }', 0, 14)
        self.put_as([1, 5, 0, 0, 0, 0], '{ rep "" 0 0 { } }', 0, 0)

    def test_several_and_within_others(self):
        self.put_as([3, 0, 2, 120, 61, 1, 1, 3, 4, 2, 0, 1, 59, 2, 2, 2],
                    '{ "x=" num 1 3 opt { ";" word 2 2 } }', 3, 8)
        self.put_as([2, 3, 1, 5, 1, 45, 1, 2, 1, 4, 0, 0, 0, 1, 34], '{ alt { rep "-" 1 2 { opt { } } } { } "\\"" }', 1, 2)
        self.put_as([1, 0, 3, 92, 34, 126], '{ "\\\\\\"~" }', 3, 3)


class WhatFollows(PutCase):
    def test_the_calls_go_by_the_new_format(self):
        numbers = row([1, 1, 2], [1, 1, 2])
        answered = behind(numbers, ("print", [1, 7]), ("print", [2, 1, 23]), ("scan", "a7"), ("scan", "123"), ("ways", "123"),
                          ("round", [2, 1, 23]), ("round", [1, 7]), ("told", 0), ("told", 1), "lengths", "format")
        self.assertEqual(answered, [[2, 2], [0], [1, 3, 49, 50, 51], [0], [1, 2, 12, 3], [2], [0, 2, 12, 3], [-4],
                                    [1, 5, 0], [3, 1, 2, 3, 0], [2, 4], numbers])

    def test_the_values_stay(self):
        answered = behind([1, 1, 3, 3], "shown", ("told", 0), ("told", 1), ("told", 2))
        self.assertEqual(bytes(answered[1][1:]), b"format { num 3 3 }\nvalue ( 5 );\nvalue ( 1 2 3 );\n")
        self.assertEqual(answered[2:], [[1, 5, 1, 3, 48, 48, 53], [3, 1, 2, 3, 0], [-3]])

    def test_put_after_put(self):
        answered = behind(row(NUMBER), "lengths", ("put", row(WORD, LITERAL)), "lengths", "shown", ("put", [9]), "format")
        self.assertEqual(answered[:4], [[1, 1], [1, 4], [2, 1], [3, 4]])
        self.assertEqual(bytes(answered[4][1:]), b'format { word 2 3 "x" }\nvalue ( 5 );\nvalue ( 1 2 3 );\n')
        self.assertEqual(answered[5:], [[-5], row(WORD, LITERAL)])

    def test_load_after_put(self):
        answered = behind(row(NUMBER), ("load", "format { } value ( 8 );"), "shown", "format")
        self.assertEqual(answered[1], [0, 0, 0, 1])
        self.assertEqual(bytes(answered[2][1:]), b"format { }\nvalue ( 8 );\n")
        self.assertEqual(answered[3], [0])

    def test_what_is_shown_after_put_loads_again(self):
        numbers = row(LITERAL, alternatives(row(NUMBER), row(optional(row(WORD)))), repeat(0, 2, row(NUMBER), b'"\\'))
        shown = behind(numbers, "shown")[1][1:]
        self.assertEqual(ask(("load", shown), "format", "shown"), [[0, 7, 6, 2], numbers, [len(shown)] + shown])

    def test_before_the_first_load(self):
        answered = ask(("put", row(NUMBER)), ("put", [9]), "format", ("load", FORMER), ("put", row(NUMBER)), "format")
        self.assertEqual(answered, [[-8], [-8], [-8], [0, 2, 1, 2], [1, 1], row(NUMBER)])


class WhatStays(PutCase):
    def test_a_refused_put_changes_nothing(self):
        former = ask(("load", FORMER), *CALLS_BEHIND)[1:]
        for numbers in ([], [1], [9], [1, 1, 2, 1], row(LITERAL) + [0], row(*[LITERAL] * 15), row(*[NUMBER] * 9),
                        row(NUMBER, repeat(0, 1, row(repeat(0, 1, row()))))):
            with self.subTest(numbers=numbers):
                answered = behind(numbers, *CALLS_BEHIND)
                self.assertEqual(answered[0], [-5])
                self.assertEqual(answered[1:], former)

    def test_a_later_load_that_is_refused_or_tells_a_fault_changes_nothing(self):
        numbers = row(NUMBER, optional(row(LITERAL)))
        former = behind(numbers, *CALLS_BEHIND)
        for source, answer in ((" " * 1201, [-1]), ("format {", [1, 2, 8]), ("format { } $", [1, 1, 11]), ("", [1, 2, 0])):
            answered = ask(("load", FORMER), ("put", numbers), ("load", source), *CALLS_BEHIND)
            self.assertEqual(answered[2], answer)
            self.assertEqual(answered[3:], former[1:])

    def test_what_was_handed_in_is_the_formats_alone(self):
        numbers = row(LITERAL, repeat(1, 1, row(), b"--"))
        answered = behind(numbers, "format", "format", ("print", [1, 1]), "format")
        self.assertEqual(answered, [[2, 1], numbers, numbers, [1, 1, 120], numbers])


class HowManyNumbers(PutCase):
    def test_too_few(self):
        whole = row(LITERAL, alternatives(row(NUMBER), row(optional(row(WORD)))), repeat(0, 2, row(NUMBER), b",,"))
        self.good(whole, 7, 6)
        self.refused(*[whole[:size] for size in range(len(whole))])

    def test_too_many(self):
        self.refused([0, 0], [1, 1, 1, 1, 1], row(LITERAL) + [0], row(optional([0])) + [0], row(alternatives([0], [0])) + [0])
        self.refused([0] * 200, [1] * 200, row(NUMBER) + [0] * 196)

    def test_the_empty_list(self):
        self.refused([])
        self.good([0], 0, 0)

    def test_counts_that_do_not_fit(self):
        self.refused([1], [2] + NUMBER, [0] + NUMBER, [1, 0, 2, 120], [1, 0, 1, 120, 120], [1, 5, 2, 44, 0, 4, 0])


class Bounds(PutCase):
    def test_kinds(self):
        for kind in (-1, 6, 7, 9999, 10**18, -10**18):
            self.refused([1, kind], [1, kind, 1, 1], [1, kind, 0], [1, kind, 1, 120])

    def test_counts(self):
        for count in (-1, 15, 10**18, -10**18):
            self.refused([count], [count, 0], [1, 4, count], [1, 0, count, 120], [1, 5, count, 0, 0, 0])

    def test_literals(self):
        self.refused([1, 0, 0], [1, 0, 9] + [120] * 9, [1, 0, 200], [1, 0, 10**18])
        self.good([1, 0, 1, 120], 1, 0)
        self.good([1, 0, 8] + [120] * 8, 1, 0)

    def test_separators(self):
        self.good(row(repeat(0, 4, row())), 1, 1)
        self.good(row(repeat(0, 4, row(), b"12345678")), 1, 1)
        self.refused(row(repeat(0, 4, row(), b"123456789")), [1, 5, -1, 0, 4, 0], [1, 5, 10**18, 0, 4, 0])

    def test_bytes(self):
        for byte in (32, 34, 92, 126):
            self.good([1, 0, 1, byte], 1, 0)
            self.good([1, 0, 2, 120, byte], 1, 0)
            self.good(row(repeat(0, 1, row(), [byte])), 1, 1)
        for byte in (31, 127, 0, 10, 128, 255, 256, -1, 10**18, -10**18):
            self.refused([1, 0, 1, byte], [1, 0, 2, 120, byte], row(repeat(0, 1, row(), [byte])))

    def test_numbers_and_words(self):
        for kind in (1, 2):
            for lo in range(1, 5):
                for hi in range(1, 5):
                    if lo <= hi:
                        self.good([1, kind, lo, hi], 1, 1)
                    else:
                        self.refused([1, kind, lo, hi])
            for bound in (0, 5, -1, 10**18, -10**18):
                self.refused([1, kind, bound, 4], [1, kind, 1, bound], [1, kind, bound, bound])

    def test_repeats(self):
        for lo in range(0, 5):
            for hi in range(0, 5):
                if lo <= hi:
                    self.good(row(repeat(lo, hi, row())), 1, 1)
                else:
                    self.refused(row(repeat(lo, hi, row())))
        for bound in (5, -1, 10**18, -10**18):
            self.refused(row(repeat(bound, 4, row())), row(repeat(0, bound, row())), row(repeat(bound, bound, row())))


class RepeatWithinRepeat(PutCase):
    def test_straight_and_through_others(self):
        inner = row(repeat(0, 0, row()))
        self.refused(row(repeat(0, 1, inner)), row(repeat(0, 0, inner)), row(repeat(0, 0, row(LITERAL, repeat(0, 0, row())))))
        self.refused(row(repeat(0, 1, row(alternatives(inner, row())))), row(repeat(0, 1, row(alternatives(row(), inner)))))
        self.refused(row(repeat(0, 1, row(optional(inner)))))
        self.refused(row(repeat(0, 1, row(optional(row(alternatives(row(optional(row())), inner)))))))

    def test_beside_and_around(self):
        self.good(row(repeat(0, 1, row()), repeat(0, 1, row()), optional(row(repeat(0, 1, row())))), 4, 4)
        self.good(row(alternatives(row(repeat(0, 1, row(optional(row())))), row(repeat(0, 1, row())))), 4, 3)


class Limits(PutCase):
    def test_fourteen_and_fifteen_pieces(self):
        self.good(row(*[LITERAL] * 14), 14, 0)
        self.refused(row(*[LITERAL] * 15))

    def test_pieces_within_others_are_counted(self):
        within = alternatives(row(LITERAL, LITERAL), row(LITERAL)), optional(row(LITERAL, LITERAL)), repeat(0, 1, row(LITERAL))
        self.good(row(*within, *[LITERAL] * 5), 14, 3)
        self.refused(row(*within, *[LITERAL] * 6), row(*within, *[LITERAL] * 4, optional(row(LITERAL))))
        self.good(row(repeat(0, 4, row(*[LITERAL] * 13))), 14, 1)
        self.refused(row(repeat(0, 4, row(*[LITERAL] * 14))))
        self.refused(row(alternatives(row(*[LITERAL] * 7), row(*[LITERAL] * 7))))

    def test_eight_and_nine_gone_through(self):
        self.good(row(*[NUMBER] * 8), 8, 8)
        self.refused(row(*[NUMBER] * 9), row(*[WORD] * 9))
        self.good(row(repeat(0, 3, row(NUMBER, WORD)), LITERAL, NUMBER), 5, 8)
        self.refused(row(repeat(0, 3, row(NUMBER, WORD)), NUMBER, NUMBER), row(repeat(0, 4, row(NUMBER, WORD))))
        self.good(row(alternatives(row(*[NUMBER] * 5), row(*[WORD] * 7))), 13, 8)
        self.refused(row(alternatives(row(*[NUMBER] * 4), row(*[WORD] * 8))), nested(9, row()))
        self.good(nested(7, row(WORD)), 8, 8)
        self.good(row(repeat(0, 0, row(*[NUMBER] * 13))), 14, 1)

    def test_rows_nested_deep(self):
        self.good(row(repeat(0, 0, nested(13, row()))), 14, 1)
        self.refused(row(repeat(0, 0, nested(14, row()))), nested(14, row()), nested(99, row()))
        self.refused([1, 4] * 100, [1, 3] * 100, [1, 5, 0, 0, 0] * 40, [1, 3, 0] * 66, [2, 4] * 100, [1, 4] * 99 + [0, 0])

    def test_the_longest_lists(self):
        self.good(row(*[[0, 8] + [126] * 8] * 14), 14, 0)
        each = repeat(0, 4, row(), b"12345678")
        self.good(row(*[each] * 8, *[[0, 8] + [32] * 8] * 6), 14, 8)
        self.refused(row(*[[0, 8] + [126] * 8] * 19))


if __name__ == "__main__":
    unittest.main()
