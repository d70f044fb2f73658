"""Inlines: [9]."""

import unittest

from galleywork.errors import BadText
from galleywork.inlines import Reader, has_solid, trimmed
from galleywork.tokens import tokenize
from helper import Case

GAP, TIE, HYPH, CUT = ("gap",), ("tie",), ("hyph",), ("cut",)


def read(text, notes=True):
    """The inlines of a whole text."""
    tokens = tokenize(text)
    return Reader(tokens).inlines(0, len(tokens), notes)


def word(letters):
    return ("word", letters)


FORMS = (
    ("", ()),
    ("ab1.", (word("ab1."),)),
    ("a b", (word("a"), GAP, word("b"))),
    ("strong note gap", (word("strong"), GAP, word("note"), GAP, word("gap"))),
    (" a\nb ", (GAP, word("a"), GAP, word("b"), GAP)),
    ("a~b", (word("a"), TIE, word("b"))),
    ("a~ ~b", (word("a"), TIE, GAP, TIE, word("b"))),
    ("a\\-b", (word("a"), HYPH, word("b"))),
    ("a\\\\b", (word("a"), CUT, word("b"))),
    ("\\strong{}", (("strong", ()),)),
    ("\\strong{ a }", (("strong", (GAP, word("a"), GAP)),)),
    ("\\strong{\\strong{a}b}", (("strong", (("strong", (word("a"),)), word("b"))),)),
    ("a\\strong{b}c", (word("a"), ("strong", (word("b"),)), word("c"))),
    ("$$", (("formula", ("row", ())),)),
    ("$a$", (("formula", ("row", (("sign", "a"),))),)),
    ("$a$b$c$", (("formula", ("row", (("sign", "a"),))), word("b"), ("formula", ("row", (("sign", "c"),))))),
    ("$ a { b } $", (("formula", ("row", (("sign", "a"), ("row", (("sign", "b"),))))),)),
    ("\\note{a}", (("note", (word("a"),)),)),
    ("\\note{ a b }", (("note", (word("a"), GAP, word("b"))),)),
    ("\\note{\\strong{ $$ }}", (("note", (("strong", (GAP, ("formula", ("row", ())), GAP)),)),)),
    ("\\strong{\\note{a}}", (("strong", (("note", (word("a"),)),)),)),
    ("\\label{s}", (("label", "s"),)),
    ("\\ref{s1.}", (("ref", "s1."),)),
    ("\\mark{Ab}", (("mark", "Ab"),)),
    ("\\note{\\ref{s}}", (("note", (("ref", "s"),)),)),
    ("\\mark{a}\\mark{a}", (("mark", "a"), ("mark", "a"))),
)


class ReadTest(Case):

    def test_forms(self):
        for text, inlines in FORMS:
            with self.subTest(text):
                self.assertEqual(self.answer(read, text), inlines)

    def test_words_and_blanks_meet(self):
        tokens = [("word", "a", 1, 1), ("word", "b", 2, 1), ("blank", " ", 1, 2), ("blank", " ", 3, 3), ("word", "c", 1, 1)]
        self.assertEqual(Reader(tokens).inlines(0, 5, True), (word("ab"), GAP, word("c")))
        self.assertEqual(Reader(tokens).inlines(1, 3, True), (word("b"), GAP))
        tokens = tokenize("\\mark{a}")
        tokens.insert(3, ("word", "b", 1, 1))
        self.assertEqual(Reader(tokens).inlines(0, 5, True), (("mark", "ab"),))
        tie = ("tie", "~", 1, 1)
        self.assertEqual(Reader([tie, tie]).inlines(0, 2, True), (TIE, TIE))

    def test_only_the_given_tokens(self):
        tokens = tokenize("}a $b$\\note{c}{")
        reader = Reader(tokens)
        self.assertEqual(reader.inlines(1, 2, True), (word("a"),))
        self.assertEqual(reader.inlines(2, 2, True), ())
        self.assertEqual(reader.inlines(2, 6, True), (GAP, ("formula", ("row", (("sign", "b"),)))))
        self.refused(BadText(1, 4, "formula"), Reader(tokens).inlines, 3, 5, True)
        self.refused(BadText(1, 7, "group"), Reader(tokens).inlines, 6, 7, True)
        self.assertEqual(reader.inlines(6, 10, True), (("note", (word("c"),)),))

    def test_the_tokens_stay(self):
        tokens = tokenize("a \\note{b $c$\\label{d}}")
        before = list(tokens)
        reader = Reader(tokens)
        reader.inlines(0, len(tokens), True)
        self.assertEqual(tokens, before)

    def test_a_second_time(self):
        tokens = tokenize("a\\label{s}")
        reader = Reader(tokens)
        self.assertEqual(reader.inlines(0, 5, True), reader.inlines(0, 5, True))
        self.assertEqual(reader.labels, [("s", 1, 2), ("s", 1, 2)])

    def test_labels_and_refs(self):
        text = "\\label{a}\\strong{\\ref{b}\\label{c}}\n\\note{\\label{d}e}\\mark{f}\\ref{b}"
        tokens = tokenize(text)
        reader = Reader(tokens)
        self.assertEqual((reader.labels, reader.refs), ([], []))
        reader.inlines(0, len(tokens), True)
        self.assertEqual(reader.labels, [("a", 1, 1), ("c", 1, 25), ("d", 2, 7)])
        self.assertEqual(reader.refs, [("b", 1, 18), ("b", 2, 26)])

    def test_labels_add_up(self):
        tokens = tokenize("\\label{a}\\label{b}\\ref{c}")
        reader = Reader(tokens)
        reader.inlines(4, 8, False)
        reader.inlines(0, 4, False)
        reader.inlines(8, 12, True)
        self.assertEqual(reader.labels, [("b", 1, 10), ("a", 1, 1)])
        self.assertEqual(reader.refs, [("c", 1, 19)])
        self.assertEqual(Reader(tokens).labels, [])


class RefusalTest(Case):

    def check(self, *rows, notes=True):
        for text, line, column, what in rows:
            with self.subTest(text):
                self.refused(BadText(line, column, what), read, text, notes)

    def test_group(self):
        for name in ("strong", "note", "label", "ref", "mark"):
            self.check(
                (f"\\{name}", 1, 1, "group"), (f"a\n\\{name} {{a}}", 2, 1, "group"), (f"\\{name}\n\n{{a}}", 1, 1, "group"),
                (f"\\strong{{\\{name}}}{{a}}", 1, 9, "group"), (f"\\{name}~{{a}}", 1, 1, "group"),
                (f"\\note{{\\{name}}}", 1, 7, "group"),
            )
        self.check(("\\note", 1, 1, "group"), notes=False)

    def test_note(self):
        self.check(
            ("\\note{\\note{a}}", 1, 7, "note"), ("\\note{\\strong{\\note{a}}}", 1, 15, "note"),
            ("\\strong{\\note{\\note{a}}}", 1, 15, "note"), ("\\note{a\n\\note{}}", 2, 1, "note"),
        )
        self.check(
            ("\\note{a}", 1, 1, "note"), ("\\strong{\\note{a}}", 1, 9, "note"),
            ("\\strong{\\strong{\\note{a}}}", 1, 17, "note"), ("\\note{}", 1, 1, "note"), ("\\note{$}", 1, 1, "note"),
            notes=False)

    def test_no_notes(self):
        for text, inlines in FORMS:
            if "note" not in text:
                self.assertEqual(read(text, False), inlines)

    def test_word(self):
        for name in ("label", "ref", "mark"):
            for group in ("{}", "{ }", "{a b}", "{ a}", "{a }", "{a~b}", "{\\-}", "{{a}}", "{$a$}", "{\\ref{a}}", "{&}",
                          "{a\n\nb}", "{#1}", "{\\\\}"):
                self.check((f"b \\{name}{group}", 1, 3, "word"))

    def test_formula(self):
        self.check(
            ("$", 1, 1, "formula"), ("a\n$b", 2, 1, "formula"), ("$a$$", 1, 4, "formula"), ("${$}", 1, 1, "formula"),
            ("\\strong{$}$", 1, 9, "formula"), ("$\\strong{$}", 1, 1, "formula"), ("$\\zz", 1, 1, "formula"),
        )

    def test_a_dollar_ahead_of_a_further_group(self):
        self.check(("${$}$", 1, 3, "place"), ("$\\root{$}$", 1, 8, "place"))
        self.assertEqual(read("${a}$"), (("formula", ("row", (("row", (("sign", "a"),)),))),))

    def test_refusals_of_formulas(self):
        self.check(
            ("$^$", 1, 2, "base"), ("$a^$", 1, 3, "script"), ("$\\root$", 1, 2, "group"), ("a\n$~$", 2, 2, "place"),
            ("$\\strong{a}$", 1, 2, "place"), ("$a\n\nb$", 1, 3, "place"),
        )

    def test_empty(self):
        self.check(
            ("\\note{}", 1, 1, "empty"), ("a\n\\note{ ~ }", 2, 1, "empty"), ("\\note{\\label{a}}", 1, 1, "empty"),
            ("\\note{\\mark{a}\\-\\\\}", 1, 1, "empty"), ("\\note{\\strong{}}", 1, 1, "empty"),
            ("\\note{\\strong{\\strong{~}}}", 1, 1, "empty"),
        )

    def test_place(self):
        self.check(
            ("{a}", 1, 1, "place"), ("a{}", 1, 2, "place"), ("&", 1, 1, "place"), ("a^b", 1, 2, "place"),
            ("a_b", 1, 2, "place"), ("#1", 1, 1, "place"), ("a\n\nb", 1, 2, "place"), ("\\strong{a}{b}", 1, 11, "place"),
            ("\\over{a}{b}", 1, 1, "place"), ("\\head{a}", 1, 1, "place"), ("\\newpage", 1, 1, "place"),
            ("\\x", 1, 1, "place"), ("\\let", 1, 1, "place"), ("\\strong{\n\n}", 1, 9, "place"),
            ("\\note{a&}", 1, 8, "place"), ("\\grid{a}", 1, 1, "place"),
        )

    def test_the_first_of_several(self):
        self.check(
            ("&\\strong", 1, 1, "place"), ("\\strong&", 1, 1, "group"), ("$&$&", 1, 2, "place"), ("&$", 1, 1, "place"),
            ("$&", 1, 1, "formula"), ("\\note{$}", 1, 7, "formula"), ("\\note{&}", 1, 7, "place"),
            ("\\note{\\label{}}", 1, 7, "word"), ("\\note{}\\note", 1, 1, "empty"), ("\\note{\\note}", 1, 7, "group"),
            ("\\label{}$", 1, 1, "word"), ("\\strong{\\label{}}&", 1, 9, "word"),
        )
        self.check(("\\note{\\note{a}}", 1, 1, "note"), notes=False)


class TrimTest(Case):

    def test_trimmed(self):
        a, strong = word("a"), ("strong", (GAP,))
        for inlines, expected in (
            ((), ()), ((GAP,), ()), ((GAP, GAP), ()), ((a,), (a,)), ((GAP, a), (a,)), ((a, GAP), (a,)),
            ((GAP, GAP, a, GAP, a, GAP, GAP), (a, GAP, a)), ((TIE, GAP), (TIE,)), ((GAP, CUT, GAP), (CUT,)),
            ((GAP, strong, GAP), (strong,)), ((GAP, ("mark", "a"), GAP), (("mark", "a"),)),
            ((HYPH, GAP, TIE), (HYPH, GAP, TIE)), ((word("gap"), GAP, word("gap")), (word("gap"), GAP, word("gap"))),
        ):
            with self.subTest(inlines):
                self.assertEqual(self.answer(trimmed, inlines), expected)

    def test_has_solid(self):
        row = ("formula", ("row", ()))
        for inlines, expected in (
            ((), False), ((GAP, TIE, HYPH, CUT, ("label", "a"), ("mark", "a")), False), ((word("a"),), True),
            ((row,), True), ((("note", (word("a"),)),), True), ((("ref", "a"),), True), ((("strong", ()),), False),
            ((GAP, ("strong", (TIE, ("strong", (word("a"),)))),), True), ((("strong", (GAP, ("strong", (TIE,)))),), False),
            ((("strong", ()), word("a")), True), ((("strong", (("ref", "a"),)), GAP), True),
        ):
            with self.subTest(inlines):
                self.assertIs(self.answer(has_solid, inlines), expected)


if __name__ == "__main__":
    unittest.main()
