"""Blocks and whole texts: [10], [11]."""

import unittest

from galleywork.errors import BadText, TooLong
from galleywork.macros import expand
from galleywork.reading import read_blocks, read_text
from galleywork.tokens import tokenize
from helper import Case

PERCENT = chr(37)
GAP = ("gap",)
A, B, C = (("word", "a"),), (("word", "b"),), (("word", "c"),)


def blocks(text):
    """The blocks of a text, read from its tokens."""
    return read_blocks(expand(tokenize(text)))


def row(chars):
    return ("row", tuple(("sign", char) for char in chars))


FORMS = (
    ("", []),
    (" \n\n ", []),
    ("a", [("par", A)]),
    (" a ", [("par", A)]),
    ("\n\na\n\n", [("par", A)]),
    ("a\n\nb", [("par", A), ("par", B)]),
    ("a \n \n\n b", [("par", A), ("par", B)]),
    ("a\nb", [("par", (("word", "a"), GAP, ("word", "b")))]),
    ("head newpage", [("par", (("word", "head"), GAP, ("word", "newpage")))]),
    ("\\head{a}", [("head", A)]),
    ("\\item{ a }", [("item", A)]),
    ("\\quote{a}b", [("quote", A), ("par", B)]),
    ("a\\head{b}c", [("par", A), ("head", B), ("par", C)]),
    ("a \\head{b} c", [("par", A), ("head", B), ("par", C)]),
    ("a\\strong{b}\\head{c}", [("par", (*A, ("strong", B))), ("head", C)]),
    ("\\head{a}\\head{b}\\item{c}", [("head", A), ("head", B), ("item", C)]),
    ("\\display{a}", [("display", row("a"))]),
    ("\\display{ {} }", [("display", ("row", (("row", ()),)))]),
    ("\\newpage", [("newpage",)]),
    ("a\\newpage\\newpage b", [("par", A), ("newpage",), ("newpage",), ("par", B)]),
    ("\\table{1}{}", [("table", (1,), (((),),))]),
    ("\\table{1 2}{a&b}", [("table", (1, 2), ((A, B),))]),
    ("\\table{ 10000\n1 }{ a & b \\\\ & c }", [("table", (10000, 1), ((A, B), ((), C)))]),
    ("\\table{7}{a\\\\\\\\b}", [("table", (7,), ((A,), ((),), (B,)))]),
    ("\\table{7 7}{a\\strong{b\\\\c}& }", [
        ("table", (7, 7), (((*A, ("strong", (*B, ("cut",), *C))), ()),))]),
    ("\\table{7}{\\note{a}}", [("table", (7,), (((("note", A),),),))]),
    ("\\table{1 2 3 4 5 6 7 8 9 10 11 12}{a&&&&&&&&&&&b}", [
        ("table", (1, 2, 3, 4, 5, 6, 7, 8, 9, 10, 11, 12), ((A, *[()] * 10, B),))]),
    ("\\float{1}{}", [("float", 1, ())]),
    ("\\float{ 10000 }{ a }", [("float", 10000, A)]),
    ("\\float{5}{\\label{s}}", [("float", 5, (("label", "s"),))]),
    ("\\head{a\\note{b}}", [("head", (*A, ("note", B)))]),
    ("$a$", [("par", (("formula", row("a")),))]),
    ("\\mark{a}\\note{b}", [("par", (("mark", "a"), ("note", B)))]),
    ("\\strong{ a }", [("par", (("strong", (GAP, *A, GAP)),))]),
    ("~a~", [("par", (("tie",), *A, ("tie",)))]),
)


class BlockTest(Case):

    def check(self, *rows):
        for text, line, column, what in rows:
            with self.subTest(text):
                self.refused(BadText(line, column, what), read_blocks, tokenize(text))

    def test_forms(self):
        for text, expected in FORMS:
            with self.subTest(text):
                self.assertEqual(self.answer(read_blocks, tokenize(text)), expected)
                self.assertEqual(self.answer(read_text, text), expected)

    def test_what_a_definition_leaves(self):
        self.assertEqual(blocks("a \\let\\x0{} b"), [("par", (*A, GAP, *B))])
        self.assertEqual(blocks("\\let\\x0{b}a\\x c"), [("par", (("word", "ab"), GAP, *C))])
        self.assertEqual(blocks("\\let\\x0{\\head}\\x{a}"), [("head", A)])
        self.assertEqual(blocks("\\let\\x0{1}\\table{\\x0\\x \\x}{a&b}"), [("table", (101, 1), ((A, B),))])
        self.assertEqual(blocks("\\let\\x0{0}\\let\\y0{}\\float{ \\y 1\\x \\y }{a}"), [("float", 10, A)])
        self.assertEqual(blocks("\\let\\x0{b}\\label{\\x\\x1}a"), [("par", (("label", "bb1"), *A))])
        self.assertEqual(blocks("\\let\\x0{}a \\x\n\\x b"), [("par", (*A, GAP, *B))])

    def test_paragraphs_end_outside_of_groups(self):
        self.check(("a\\strong{b\n\nc}", 1, 11, "place"), ("a\\strong{\\head{b}}", 1, 10, "place"))

    def test_a_dollar_makes_no_difference(self):
        self.check(("$a\n\nb$", 1, 1, "formula"), ("$a\\head{b}$", 1, 1, "formula"), ("$a\\newpage", 1, 1, "formula"),
                   ("${\\head{b}}", 1, 1, "formula"), ("${a\n\nb}", 1, 1, "formula"), ("${\\head{b}}$", 1, 3, "place"))

    def test_groups(self):
        for name in ("head", "item", "quote", "display"):
            self.check(
                (f"\\{name}", 1, 1, "group"), (f"\\{name} {{a}}", 1, 1, "group"), (f"a\n\\{name}\n{{a}}", 2, 1, "group"),
                (f"\\{name}\n\n{{a}}", 1, 1, "group"),
            )
        self.check(
            ("\\table", 1, 1, "group"), ("\\table{1}", 1, 1, "group"), ("\\table{1} {a}", 1, 1, "group"),
            ("\\table {1}{a}", 1, 1, "group"), ("\\float{1}", 1, 1, "group"), ("\\float {1}{}", 1, 1, "group"),
            ("\\float{1}\n{}", 1, 1, "group"), ("\\float{x}", 1, 1, "group"), ("\\table{x}", 1, 1, "group"),
        )

    def test_widths(self):
        for widths in ("", " ", "0", "1 0", "10001", "01", "1 02", "a", "1a", "-1", "+1", "1.5", "1,2", "{1}", "1\n\n2", "1~2",
                       "1 2 3 4 5 6 7 8 9 10 11 12 13", "\\-", "$1$", "99999", "100000", "9" * 5000, "1&2", "1\\\\2"):
            self.check(("b\n\\table{" + widths + "}{a}", 2, 1, "table"))

    def test_thirteen_columns(self):
        self.check(("\\table{" + " 1" * 13 + "}{" + "&" * 12 + "}", 1, 1, "table"))

    def test_numbers_of_cells(self):
        for columns, cells in ((1, "a&b"), (2, "a"), (2, "a&b\\\\c"), (2, "a\\\\b&c"), (2, "a&b&c"), (2, "a&b\\\\c&d&e"), (2, ""),
                               (2, "\\strong{&}"), (2, "a&b\\\\"), (1, "&\\head")):
            self.check(("\\table{" + " 5" * columns + "}{" + cells + "}", 1, 1, "table"))

    def test_heights(self):
        for height in ("", " ", "0", "10001", "01", "007", "a", "5 5", "5.", "-5", "{5}", "5\n\n", "9" * 5000, "5~", "$5$"):
            self.check(("b\n\\float{" + height + "}{a}", 2, 1, "number"))

    def test_numbers_within_their_bounds(self):
        for number in (1, 9, 10, 99, 100, 1000, 9999, 10000):
            self.assertEqual(blocks(f"\\float{{{number}}}{{}}"), [("float", number, ())])
            self.assertEqual(blocks(f"\\table{{{number}}}{{}}"), [("table", (number,), (((),),))])

    def test_empty(self):
        for name in ("head", "item", "quote"):
            for inside in ("", " ", "~", "\\label{a}", "\\mark{a}", "\\-", "\\\\", "\\strong{}", "\\strong{\\strong{ }}"):
                self.check((f"b\n\\{name}{{{inside}}}", 2, 1, "empty"))
        self.check(
            ("\n\n ~", 3, 2, "empty"), ("a\n\n\\label{a}", 3, 1, "empty"), ("\\mark{a}\\head{b}", 1, 1, "empty"),
            ("\\head{a} \\- \\head{b}", 1, 10, "empty"), ("\\strong{ }", 1, 1, "empty"), ("\\\\", 1, 1, "empty"),
            ("\\display{}", 1, 1, "empty"), ("a\n\\display{ }", 2, 1, "empty"), ("\\newpage~", 1, 9, "empty"),
        )

    def test_solids(self):
        for inside in ("a", "$$", "\\note{a}", "\\ref{a}", "\\strong{a}", "\\strong{~\\strong{$$}}"):
            for text in (inside, "\\head{" + inside + "}", "\\item{" + inside + "}", "\\quote{" + inside + "}"):
                with self.subTest(text):
                    self.assertEqual(len(read_blocks(tokenize(text))), 1)

    def test_notes_in_captions(self):
        self.check(
            ("\\float{5}{\\note{a}}", 1, 11, "note"), ("\\float{5}{\\strong{\\note{a}}}", 1, 19, "note"),
            ("\\table{5}{\\note{\\note{a}}}", 1, 17, "note"), ("\\head{\\note{\\strong{\\note{a}}}}", 1, 21, "note"),
        )

    def test_other_tokens_begin_a_paragraph(self):
        self.check(
            ("{a}", 1, 1, "place"), ("\\newpage{a}", 1, 9, "place"), ("\\head{a}{b}", 1, 9, "place"), ("&", 1, 1, "place"),
            ("#1", 1, 1, "place"), ("^", 1, 1, "place"), ("\\over{a}{b}", 1, 1, "place"), ("\\x", 1, 1, "place"),
            ("\\let\\x0{a}", 1, 1, "place"), ("$", 1, 1, "formula"), ("\\strong", 1, 1, "group"),
        )

    def test_insides(self):
        self.check(
            ("\\head{a\n\nb}", 1, 8, "place"), ("\\head{$}", 1, 7, "formula"), ("\\item{\\ref{}}", 1, 7, "word"),
            ("\\quote{\\note{}}", 1, 8, "empty"), ("\\display{^}", 1, 10, "base"), ("\\display{a$}", 1, 11, "place"),
            ("\\display{a\n\nb}", 1, 11, "place"), ("\\table{5}{{}}", 1, 11, "place"), ("\\table{5}{$a}", 1, 11, "formula"),
            ("\\float{5}{\\x}", 1, 11, "place"), ("\\head{\\head{a}}", 1, 7, "place"), ("\\table{5}{a\n\nb}", 1, 12, "place"),
            ("\\table{5 5}{$a&b$}", 1, 13, "formula"), ("\\table{5}{\\newpage}", 1, 11, "place"),
        )

    def test_the_first_of_several(self):
        self.check(
            ("\\head{&}\\head", 1, 7, "place"), ("\\head\\head{&}", 1, 1, "group"), ("\\table{x}{&}", 1, 1, "table"),
            ("\\table{5}{&\\\\$}", 1, 1, "table"), ("\\table{5}{$\\\\&}", 1, 1, "table"), ("\\float{x}{&}", 1, 1, "number"),
            ("\\float{}{\\note{a}}", 1, 1, "number"), ("\\head{~\\label{}}", 1, 8, "word"), ("~&", 1, 2, "place"),
            ("~\n\n&", 1, 1, "empty"), ("\\table{5 5}{\\label{}&$}", 1, 13, "word"), ("\\display{$}", 1, 10, "place"),
            ("a&\\head", 1, 2, "place"), ("~\\head", 1, 1, "empty"),
        )


class TextTest(Case):

    def check(self, *rows):
        for text, line, column, what in rows:
            with self.subTest(text):
                self.refused(BadText(line, column, what), read_text, text)

    def test_example(self):
        self.assertEqual(read_text("\\head{A b\\label{s}}\n\nSee~\\ref{s}."), [
            ("head", (("word", "A"), GAP, ("word", "b"), ("label", "s"))),
            ("par", (("word", "See"), ("tie",), ("ref", "s"), ("word", "."))),
        ])

    def test_length(self):
        self.assertEqual(read_text("a" * 6000), [("par", (("word", "a" * 6000),))])
        self.assertEqual(read_text(" " * 6000), [])
        self.refused(TooLong("text"), read_text, "a" * 6001)
        self.refused(TooLong("text"), read_text, " " * 6001)

    def test_the_stages_in_order(self):
        long = "{" * 13
        self.refused(TooLong("text"), read_text, "\t}" + "a" * 6000)
        self.check(
            ("}\t", 1, 2, "character"), ("\\x}{\n\\1", 2, 1, "escape"), ("\\x#0", 1, 3, "parameter"),
            ("\\x}", 1, 3, "shut"), ("\\x" + long, 1, 15, "depth"), ("\\x{", 1, 3, "open"), ("#1{", 1, 3, "open"),
            ("&\\x", 1, 2, "undefined"), ("\\head\\let", 1, 6, "name"), ("&#1", 1, 2, "parameter"),
            ("\\label{a}b\\label{a}&", 1, 20, "place"), ("\\ref{a}\n\n~", 3, 1, "empty"),
            ("\\ref{a}b\\label{c}\\label{c}", 1, 18, "label"),
        )
        self.refused(TooLong("written"), read_text, "&\\let\\d1{#1#1#1}\\d{" + "a" * 2000 + "}b")
        self.refused(TooLong("call"), read_text, "&\\let\\d1{#1#1#1}\\d{" + "a" * 2001 + "}")
        self.refused(TooLong("body"), read_text, "&\\let\\d1{#1#1}\\let\\y0{\\d{" + "a" * 3000 + "}b}")

    def test_depth_that_only_arises_when_macros_are_written_out(self):
        body = "\\let\\d1{" + "{" * 7 + "#1" + "}" * 7 + "}"
        self.check(
            (body + "\\strong\\d{" + "{" * 6 + "}" * 6 + "}", 1, 41, "depth"),
            ("&\n" + body + "\\d{" + "{" * 6 + "}" * 6 + "}", 2, 34, "depth"),
        )
        fits = "\\let\\d1{" + "\\strong{" * 6 + "#1" + "}" * 6 + "}\\d{" + "\\strong{" * 6 + "a" + "}" * 6 + "}"
        inlines = A
        for _ in range(12):
            inlines = (("strong", inlines),)
        self.assertEqual(read_text(fits), [("par", inlines)])

    def test_labels(self):
        self.check(
            ("\\label{a}b\\label{a}", 1, 11, "label"), ("\\label{a}b\n\nc\\label{d}\\label{a}\\label{d}", 3, 11, "label"),
            ("\\head{a\\label{s}}\\float{5}{\\label{s}}", 1, 28, "label"), ("a\\note{b\\label{s}}\\label{s}", 1, 19, "label"),
            ("\\label{s}a\\strong{\\label{s}}", 1, 19, "label"), ("\\table{5 5}{\\label{s}&\\label{s}}", 1, 23, "label"),
            ("a\\label{x}\\label{x}\\label{y}\\label{y}", 1, 11, "label"),
            ("\\let\\x0{\\label{s}}a\\x\n\\x", 1, 9, "label"),
        )

    def test_references(self):
        self.check(
            ("\\ref{a}", 1, 1, "reference"), ("a\\label{b}\\ref{c}\\ref{b}\n\\ref{d}", 1, 11, "reference"),
            ("a\\label{b}\\ref{b}\\ref{B}", 1, 18, "reference"), ("\\label{b}a\\note{\\ref{c}}\\ref{d}", 1, 17, "reference"),
            ("\\float{5}{\\ref{c}}", 1, 11, "reference"), ("a\\label{1}\\ref{01}", 1, 11, "reference"),
        )
        self.assertEqual(len(read_text("\\ref{b}\n\na\\label{b}")), 2)
        self.assertEqual(len(read_text("\\ref{b}\\ref{b}\\label{b}")), 1)

    def test_a_read_text_refuses_what_its_blocks_do_not(self):
        self.assertEqual(len(read_blocks(tokenize("\\ref{a}\\label{b}\\label{b}"))), 1)

    def test_the_most_blocks(self):
        self.assertEqual(read_text("a\n\n" * 2000), [("par", A)] * 2000)
        self.assertEqual(read_text("a\\-" * 2000), [("par", (("word", "a"), ("hyph",)) * 2000)])


if __name__ == "__main__":
    unittest.main()
