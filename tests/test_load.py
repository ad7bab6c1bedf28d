"""load: what it answers, the faults and their places, what stays as it was."""

import unittest

from helper import ask, in_form, load, shown


def value(count):
    return "value ( " + "7 " * count + ");"


class FaultCase(unittest.TestCase):
    def told(self, kind, *marked):
        """Each source is at fault where the sign @ stands in it."""
        for source in marked:
            with self.subTest(kind=kind, source=source):
                place = source.index("@")
                self.assertEqual(load(source.replace("@", "", 1)), [1, kind, place])

    def good(self, source, *counts):
        with self.subTest(source=source):
            self.assertEqual(load(source), [0] + list(counts))


class Counts(FaultCase):
    def test_empty_format(self):
        self.good("format { }", 0, 0, 0)
        self.good("format{}", 0, 0, 0)

    def test_pieces_within_others_are_counted(self):
        self.good(in_form('"x" num 1 2 word 1 2'), 3, 2, 0)
        self.good(in_form('alt { "a" num 1 1 } { opt { "b" } } rep "," 0 2 { word 1 1 "c" }'), 8, 5, 0)

    def test_gone_through(self):
        self.good(in_form('"a"'), 1, 0, 0)
        self.good(in_form("num 1 4"), 1, 1, 0)
        self.good(in_form("word 1 4"), 1, 1, 0)
        self.good(in_form("alt { } { }"), 1, 1, 0)
        self.good(in_form("alt { num 1 1 } { num 1 1 word 1 1 }"), 4, 3, 0)
        self.good(in_form("alt { num 1 1 num 1 1 word 1 1 } { num 1 1 }"), 5, 4, 0)
        self.good(in_form('opt { num 1 1 "x" opt { } }'), 4, 3, 0)
        self.good(in_form('rep "" 0 0 { num 1 1 num 1 1 }'), 3, 1, 0)
        self.good(in_form('rep "" 0 3 { num 1 1 opt { } }'), 3, 7, 0)
        self.good(in_form('rep "" 2 4 { "x" }'), 2, 1, 0)
        self.good(in_form('opt { rep "" 1 2 { alt { num 1 1 } { word 1 1 num 1 1 } } }'), 6, 8, 0)

    def test_values(self):
        self.good("format { } value ( );", 0, 0, 1)
        self.good("format { } value ( 1 2 3 ); value ( 0 ); value ( 9999 );", 0, 0, 3)

    def test_values_need_not_be_the_formats(self):
        self.good(in_form("num 1 1") + " value ( 5 5 5 ); value ( );", 1, 1, 2)


class Tokens(FaultCase):
    def test_blanks_and_row_ends_mean_nothing(self):
        self.good(" \n format\n{\n}\n  value(1 2)\n;  \n", 0, 0, 1)
        self.good('format{"x"num 1 2"y"word1 2 rep","0 4{}}value();', 5, 3, 1)

    def test_words_and_numerals_need_nothing_between(self):
        self.good("format{num1 2word3 4}value(1);", 2, 2, 1)

    def test_no_token(self):
        self.told(1, "@Format { }", "format @[ }", "format {@\t}", "format { @-1 }", "format { @\\ }", "@. format { }")
        self.told(1, "format @\x00{ }", "format { }@\x7f", "@\x80", "@\xff", "format { }@\r\n", "format { } @,")

    def test_neighbours_of_digits_and_letters(self):
        self.told(1, "format { } value ( 1@: );", "format { } value ( 1@/ );", "format { num@` 1 2 }", "format@| { }")
        self.told(1, "format { num@A 1 2 }", "format { @~ }", "format { @! }", "format { @# }")

    def test_sign_word_too_long(self):
        self.told(1, "@formats { }", "format { @numword 1 2 }", "@abcdefg")
        self.told(2, "@foo", "@abcdef", "@formal { }")

    def test_numeral_too_long_or_with_zeros_in_front(self):
        self.told(1, "format { num @00001 2 }", "format { num @01 2 }", "format { num 1 @00 }")
        self.told(1, "format { } value ( @10000 );", "format { } value ( @00 );", "format { } value ( 1 @0123 );")
        self.good("format { } value ( 0 9999 10 1000 );", 0, 0, 1)

    def test_string_that_is_not_right(self):
        self.told(1, 'format { @"', 'format { @"abc', 'format { @"abc }', 'format { @"a\\"')
        self.told(1, 'format { @"a\\', 'format { @"a\\n" }', 'format { @"a\\ " }', 'format { @"a\\1b" }')
        self.told(1, 'format { @"a\nb" }', 'format { @"a\x1fb" }', 'format { @"a\x7fb" }', 'format { @"\x80" }')
        self.told(1, 'format { @"a\\\n" }', 'format { "a" @" }')

    def test_string_with_backslashes(self):
        self.good(in_form('"\\"" "\\\\" "a\\\\\\"b" " ~!"'), 4, 0, 0)
        self.good(in_form('"\\"\\"\\"\\"\\\\\\\\\\\\\\\\"'), 1, 0, 0)

    def test_the_first_of_several(self):
        self.told(1, "@A B", 'format { @001 "x }', "format @$ $")


class Grammar(FaultCase):
    def test_the_beginning(self):
        self.told(2, "@", " \n@", "@{ }", "@value ( );", '@"format" { }', "@1", "@num 1 2", "@forma { }", "@;")

    def test_the_formats_row(self):
        self.told(2, "format@", "format @}", "format @num", "format @( )", 'format @"x"', "format { @", "format {@")

    def test_where_a_piece_may_stand(self):
        self.told(2, "format { @1 }", "format { @foo }", "format { @format }", "format { @value }", "format { @{ } }")
        self.told(2, "format { @( }", "format { @) }", "format { @; }", 'format { "x" @', "format { num 1 2 @3 }")

    def test_numbers_and_words(self):
        self.told(2, "format { num @", "format { num @}", 'format { num @"x" 1 }', "format { num @num }")
        self.told(2, "format { num 1 @}", "format { word 1 @", "format { word @a 1 }", "format { word 1 @{ } }")

    def test_alternatives_and_optional_parts(self):
        self.told(2, "format { alt @}", "format { alt { } @}", "format { alt { } @num 1 2 }", "format { alt { @")
        self.told(2, "format { alt { } { } @{ } }", "format { opt @}", 'format { opt @"x" }', "format { opt { } @{ } }")

    def test_repeats(self):
        self.told(2, "format { rep @0 1 { } }", 'format { rep @{ } }', 'format { rep "" @{ } }', 'format { rep "" 0 @"" }')
        self.told(2, 'format { rep "" 0 @{ } }', 'format { rep "" 0 1 @}', 'format { rep "" 0 1 @2 { } }')

    def test_behind_the_format(self):
        self.told(2, "format { } @}", 'format { } @"x"', "format { } @format { }", "format { } @;", "format { } @1")
        self.told(2, "format { } @valu ( );", "format { } @num 1 2")

    def test_values(self):
        self.told(2, "format { } value @", "format { } value @1 );", "format { } value @{ }", "format { } value @;")
        self.told(2, "format { } value ( @", "format { } value ( 1 @;", 'format { } value ( @"1" );')
        self.told(2, "format { } value ( @value ( );", "format { } value ( 1 @( );", "format { } value ( ) @")
        self.told(2, "format { } value ( ) @value ( );", "format { } value ( ) @) ;", "format { } value ( ); @;")

    def test_the_end_is_behind_blanks_too(self):
        self.told(2, "format { \n \n@", "format { } value ( )  @", "   @")


class Bounds(FaultCase):
    def test_literals(self):
        self.told(3, 'format { @"" }', 'format { @"123456789" }', 'format { opt { "x" @"" } }')
        self.told(3, 'format { @"\\"\\"\\"\\"\\"\\"\\"\\"\\"" }')
        self.good(in_form('"1" "12345678" "\\\\2345678"'), 3, 0, 0)

    def test_separators(self):
        self.told(3, 'format { rep @"123456789" 0 1 { } }')
        self.good(in_form('rep "12345678" 0 1 { } rep "" 0 1 { } rep "\\"2345678" 0 1 { }'), 3, 3, 0)

    def test_numbers_and_words(self):
        for word in ("num", "word"):
            self.told(3, "format { " + word + " @0 1 }", "format { " + word + " @5 5 }", "format { " + word + " 1 @5 }")
            self.told(3, "format { " + word + " 2 @1 }", "format { " + word + " 4 @3 }", "format { " + word + " 1 @0 }")
            self.told(3, "format { " + word + " @9999 1 }", "format { " + word + " 4 @9999 }")
            for lo in range(1, 5):
                for hi in range(lo, 5):
                    self.good(in_form(f"{word} {lo} {hi}"), 1, 1, 0)

    def test_repeats(self):
        self.told(3, 'format { rep "" @5 5 { } }', 'format { rep "" 0 @5 { } }', 'format { rep "" 1 @0 { } }')
        self.told(3, 'format { rep "" 4 @3 { } }', 'format { rep "," 2 @10 { } }')
        for lo in range(0, 5):
            for hi in range(lo, 5):
                self.good(in_form(f'rep "" {lo} {hi} {{ }}'), 1, 1, 0)

    def test_lo_is_told_ahead_of_what_stands_behind_it(self):
        self.told(3, "format { num @0 }", "format { num @5 9 }", 'format { rep @"123456789" 9 9 }')


class TooMany(FaultCase):
    def test_fourteen_pieces(self):
        self.good(in_form('"x" ' * 14), 14, 0, 0)
        self.told(4, in_form('"x" ' * 14 + '@"x"'), in_form('"x" ' * 14 + "@num 1 2"), in_form('"x" ' * 14 + "@alt { } { }"))

    def test_fourteen_pieces_with_those_within(self):
        self.good(in_form("opt { " * 7 + '"x" ' * 7 + "} " * 7), 14, 7, 0)
        self.told(4, in_form("opt { " * 7 + '"x" ' * 7 + '@"x" ' + "} " * 7))
        self.good(in_form('alt { "a" "b" "c" } { "d" "e" } opt { "f" "g" } rep "" 1 2 { "h" "i" "j" } "k"'), 14, 3, 0)
        self.told(4, in_form('alt { "a" "b" "c" } { "d" "e" } opt { "f" "g" } rep "" 1 2 { "h" "i" "j" } "k" @"l"'))
        self.told(4, in_form("opt { " * 14 + "@opt { " + "} " * 15))

    def test_deepest(self):
        self.told(6, "@" + in_form("opt { " * 14 + "} " * 14))
        self.good(in_form("opt { " * 8 + "} " * 8), 8, 8, 0)
        self.good(in_form('rep "" 0 0 { ' + "opt { " * 13 + "} " * 14), 14, 1, 0)

    def test_ahead_of_three_and_five(self):
        self.told(4, in_form('"x" ' * 14 + '@""'), in_form('"x" ' * 14 + '@"123456789"'))
        self.told(4, in_form('rep "" 0 1 { ' + '"x" ' * 13 + '@rep "" 0 1 { } }'))

    def test_not_where_no_piece_can_stand(self):
        self.told(2, in_form('"x" ' * 14 + "@foo"), in_form('"x" ' * 14 + "@1"), "format { " + '"x" ' * 14 + "@")

    def test_sixty_numerals(self):
        self.good("format { } " + value(60), 0, 0, 1)
        self.told(4, "format { } value ( " + "7 " * 60 + "@7 );", "format { } " + value(60) + "value ( " + "7 " * 60 + "@8 9 );")
        self.told(2, "format { } value ( " + "7 " * 60 + "@; );")

    def test_six_values(self):
        self.good("format { } " + value(1) * 6, 0, 0, 6)
        self.told(4, "format { } " + value(1) * 6 + "@value ( );", "format { } " + value(0) * 6 + "@value")
        self.told(2, "format { } " + value(1) * 6 + "@format")


class RepeatWithinRepeat(FaultCase):
    def test_straight_and_through_others(self):
        self.told(5, 'format { rep "" 0 1 { @rep "" 0 1 { } } }', 'format { rep "" 0 0 { "x" @rep "" 0 0 { } } }')
        self.told(5, 'format { rep "" 0 1 { alt { @rep "" 0 1 { } } { } } }')
        self.told(5, 'format { rep "" 0 1 { alt { } { @rep "" 0 1 { } } } }')
        self.told(5, 'format { rep "" 0 1 { opt { @rep "" 0 1 { } } } }')
        self.told(5, 'format { rep "" 0 1 { opt { alt { opt { } @rep "" 0 1 { } } { } } } }')

    def test_ahead_of_what_the_inner_one_is(self):
        self.told(5, 'format { rep "" 0 1 { @rep 7', 'format { rep "" 0 1 { @rep "123456789" 9 9')

    def test_beside_and_around(self):
        self.good(in_form('rep "" 0 1 { } rep "" 0 1 { } opt { rep "" 0 1 { } }'), 4, 4, 0)
        self.good(in_form('alt { rep "" 0 1 { opt { } } } { rep "" 0 1 { } }'), 4, 3, 0)
        self.good(in_form('rep "" 0 1 { opt { } } rep "" 0 1 { }'), 3, 3, 0)


class GoneThrough(FaultCase):
    def test_eight_and_nine(self):
        self.good(in_form("num 1 1 " * 8), 8, 8, 0)
        self.told(6, "@" + in_form("num 1 1 " * 9), " \n @" + in_form("word 1 1 " * 9))
        self.told(6, "@" + in_form("opt { " * 9 + "} " * 9))
        self.good(in_form('num 1 1 rep "" 0 2 { num 1 1 opt { num 1 1 } }'), 5, 8, 0)
        self.told(6, "@" + in_form('rep "" 0 4 { num 1 1 num 1 1 }'))
        self.good(in_form('rep "" 4 4 { num 1 1 } opt { num 1 1 num 1 1 }'), 5, 8, 0)

    def test_alternatives_count_the_greater_row(self):
        self.good(in_form("alt { " + "num 1 1 " * 7 + "} { " + "num 1 1 " * 5 + "}"), 13, 8, 0)
        self.told(6, "@" + in_form("alt { " + "num 1 1 " * 4 + "} { " + "num 1 1 " * 8 + "}"))

    def test_ahead_of_what_stands_behind(self):
        self.told(6, "@" + in_form("num 1 1 " * 9) + " foo", "@" + in_form("num 1 1 " * 9) + " value ( ")
        self.told(2, "format { " + "num 1 1 " * 9 + "@")
        self.told(3, "format { " + "num 1 1 " * 9 + '@"" }')


class WhichFault(FaultCase):
    def test_one_ahead_of_all_others(self):
        self.told(1, 'format { num 0 9 @$', 'foo @"', 'format { "" @? }', in_form('"x" ' * 15) + "@A")
        self.told(1, 'format { rep "" 0 1 { rep "" 0 1 { } } } @007', in_form("num 1 1 " * 9) + "@formats")

    def test_the_others_from_left_to_right(self):
        self.told(3, "format { num @0 1 foo", 'format { @"" rep 1')
        self.told(2, "format { @foo num 0 1 }", 'format { alt { } @"" }')
        self.told(5, 'format { rep "" 0 1 { @rep "" 0 1 { "" } } foo')


class SourceLength(FaultCase):
    def test_most_bytes(self):
        source = "format { } value ( 1 );"
        self.good(source + " " * (1200 - len(source)), 0, 0, 1)
        self.assertEqual(load(source + " " * (1201 - len(source))), [-1])
        self.assertEqual(load(source + " " * (1300 - len(source))), [-1])

    def test_refused_ahead_of_faults(self):
        self.assertEqual(load("$" * 1201), [-1])
        self.assertEqual(load("$" * 1200), [1, 1, 0])
        self.assertEqual(load(" " * 1200), [1, 2, 1200])
        self.assertEqual(load("{" * 1200), [1, 2, 0])
        self.assertEqual(load('"' + "x" * 1199), [1, 1, 0])


class WhatStays(FaultCase):
    def test_a_fault_changes_nothing(self):
        former = 'format { "a" num 1 2 }\nvalue ( 5 );\n'
        faulty = ["format { } $", "format { } foo", "format { } value ( 1 ); value ( 2 ) num", 'format { "" }']
        faulty += [in_form('"x" ' * 15), 'format { rep "" 0 1 { rep "" 0 1 { } } }', in_form("num 1 1 " * 9), ""]
        for source in faulty + [" " * 1201]:
            with self.subTest(source=source):
                self.assertEqual(shown(former, source), former)

    def test_no_source_behind_a_fault_alone(self):
        self.assertEqual(ask(("load", "format {"), "shown"), [[1, 2, 8], [-8]])
        self.assertEqual(ask(("load", " " * 1201), "format"), [[-1], [-8]])

    def test_the_next_source_counts(self):
        self.assertEqual(shown("format { num 1 1 } value ( 1 );", 'format { "b" }'), 'format { "b" }\n')
        answered = ask(("load", "format { num 1 1 }"), ("print", [1, 7]), ("load", 'format { "b" }'), ("print", [0]))
        self.assertEqual(answered, [[0, 1, 1, 0], [1, 1, 55], [0, 1, 0, 0], [1, 1, 98]])


if __name__ == "__main__":
    unittest.main()
