"""shown: the one form; format: the format as numbers."""

import unittest

from helper import ask, format_of, in_form, shown

ALL_SORTS = """
 format{"x="num 1 3 opt{}alt{word 1 2}{}rep","0 3{num 2 2}}value(42 1);
value(
);
"""
ALL_SORTS_FORM = """format { "x=" num 1 3 opt { } alt { word 1 2 } { } rep "," 0 3 { num 2 2 } }
value ( 42 1 );
value ( );
"""


class OneForm(unittest.TestCase):
    def test_the_documents_lines_with_four_times_have_nine_gone_through(self):
        self.assertEqual(ask(("load", ALL_SORTS_FORM.replace("0 3", "0 4"))), [[1, 6, 0]])

    def test_all_sorts(self):
        self.assertEqual(shown(ALL_SORTS), ALL_SORTS_FORM)

    def test_empty_rows(self):
        self.assertEqual(shown("format{}"), "format { }\n")
        self.assertEqual(shown('format{alt{}{}opt{}rep""0 0{}}'), 'format { alt { } { } opt { } rep "" 0 0 { } }\n')

    def test_strings_with_backslashes(self):
        source = 'format{"\\"" "\\\\"rep"a\\"\\\\b"1 1{" "}"  "}'
        self.assertEqual(shown(source), 'format { "\\"" "\\\\" rep "a\\"\\\\b" 1 1 { " " } "  " }\n')

    def test_rows_within_rows(self):
        source = 'format{opt{alt{"a"opt{"b"}}{rep";"2 4{word 3 4 alt{}{"}"}}}}}'
        form = 'format { opt { alt { "a" opt { "b" } } { rep ";" 2 4 { word 3 4 alt { } { "}" } } } } }\n'
        # Each is gone through: 1 of opt, 1 of alt, 1 + 4 * 2 of the repeat, one too many.
        self.assertEqual(ask(("load", source)), [[1, 6, 0]])
        self.assertEqual(shown(source.replace("2 4{", "2 2{")), form.replace("2 4 {", "2 2 {"))

    def test_values(self):
        self.assertEqual(shown("format{}value(0 9999);value();value(7);"),
                         "format { }\nvalue ( 0 9999 );\nvalue ( );\nvalue ( 7 );\n")
        most = "format { }\n" + ("value ( " + "1 " * 60 + ");\n") * 6
        self.assertEqual(shown(most), most)

    def test_what_is_shown_loads_and_shows_the_same(self):
        for source in (ALL_SORTS, "format{}", 'format{"\\\\\\""rep"\\""0 1{}}value(1);', in_form('"~" ' * 14)):
            form = shown(source)
            self.assertEqual(shown(form), form)
            self.assertEqual(ask(("load", form)), ask(("load", source)))

    def test_how_many_bytes_are_told_ahead(self):
        self.assertEqual(ask(("load", "format{}"), "shown")[1], [11] + list(b"format { }\n"))


class AsNumbers(unittest.TestCase):
    def test_each_sort(self):
        self.assertEqual(format_of(""), [0])
        self.assertEqual(format_of('"x="'), [1, 0, 2, 120, 61])
        self.assertEqual(format_of("num 1 3"), [1, 1, 1, 3])
        self.assertEqual(format_of("word 2 4"), [1, 2, 2, 4])
        self.assertEqual(format_of('alt { "a" } { }'), [1, 3, 1, 0, 1, 97, 0])
        self.assertEqual(format_of("opt { num 4 4 }"), [1, 4, 1, 1, 4, 4])
        self.assertEqual(format_of('rep ", " 0 4 { word 1 1 }'), [1, 5, 2, 44, 32, 0, 4, 1, 2, 1, 1])
        self.assertEqual(format_of('rep "" 3 3 { }'), [1, 5, 0, 3, 3, 0])

    def test_strings_are_the_bytes_they_tell(self):
        self.assertEqual(format_of('"\\"\\\\"'), [1, 0, 2, 34, 92])
        self.assertEqual(format_of('rep "\\\\" 0 1 { }'), [1, 5, 1, 92, 0, 1, 0])

    def test_several_and_within_others(self):
        self.assertEqual(format_of('"x=" num 1 3 opt { ";" word 2 2 }'),
                         [3, 0, 2, 120, 61, 1, 1, 3, 4, 2, 0, 1, 59, 2, 2, 2])
        self.assertEqual(format_of('alt { opt { alt { } { "a" } } } { "b" "c" } "d"'),
                         [2, 3, 1, 4, 1, 3, 0, 1, 0, 1, 97, 2, 0, 1, 98, 0, 1, 99, 0, 1, 100])

    def test_values_do_not_come_with_it(self):
        self.assertEqual(ask(("load", "format { num 1 1 } value ( 1 );"), "format")[1], [1, 1, 1, 1])


if __name__ == "__main__":
    unittest.main()
