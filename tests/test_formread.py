"""Formulas: [8]."""

import unittest

from galleywork.errors import BadText
from galleywork.formread import read_formula
from galleywork.tokens import tokenize
from helper import Case


def read(text):
    """The row of a whole text."""
    tokens = tokenize(text)
    return read_formula(tokens, 0, len(tokens))


def sign(char):
    return ("sign", char)


def row(*items):
    """A row; strings among the items stand for their signs."""
    found = []
    for item in items:
        if isinstance(item, str):
            found.extend(sign(char) for char in item)
        else:
            found.append(item)
    return ("row", tuple(found))


def script(base, up=None, down=None):
    """A script; strings stand for signs."""
    return ("script", *[sign(part) if isinstance(part, str) else part for part in (base, up, down)])


X = row("x")
FORMS = (
    ("", row()),
    ("a", row("a")),
    ("ab1+", row("ab1+")),
    ("over root", row("overroot")),
    (" a  b\n", row("ab")),
    ("{}", row(row())),
    ("{a}b{{c}}", row(row("a"), "b", row(row("c")))),
    ("{ }", row(row())),
    ("\\over{a}{b}", row(("over", row("a"), row("b")))),
    ("\\over{}{}", row(("over", row(), row()))),
    ("\\over{ a b }{c}", row(("over", row("ab"), row("c")))),
    ("\\over{\\over{a}{b}}{\\over{c}{}}", row(
        ("over", row(("over", row("a"), row("b"))), row(("over", row("c"), row()))))),
    ("\\root{a}", row(("root", row("a")))),
    ("\\root{{a}}", row(("root", row(row("a"))))),
    ("\\root{}b", row(("root", row()), "b")),
    ("\\root{a}{b}", row(("root", row("a")), row("b"))),
    ("\\fence{()}{a}", row(("fence", "(", ")", row("a")))),
    ("\\fence{][}{a}", row(("fence", "]", "[", row("a")))),
    ("\\fence{))}{}", row(("fence", ")", ")", row()))),
    ("\\fence{..}{a}", row(("fence", "", "", row("a")))),
    ("\\fence{(.}{a}{b}", row(("fence", "(", "", row("a")), row("b"))),
    ("\\fence{.]}{a}", row(("fence", "", "]", row("a")))),
    ("\\grid{}", row(("grid", ((row(),),)))),
    ("\\grid{ }", row(("grid", ((row(),),)))),
    ("\\grid{a}", row(("grid", ((row("a"),),)))),
    ("\\grid{a & b \\\\ c & d}", row(("grid", ((row("a"), row("b")), (row("c"), row("d")))))),
    ("\\grid{&&}", row(("grid", ((row(), row(), row()),)))),
    ("\\grid{\\\\\\\\}", row(("grid", ((row(),), (row(),), (row(),))))),
    ("\\grid{\\grid{a&b\\\\c&d}&{\\grid{&}}}", row(("grid", ((
        row(("grid", ((row("a"), row("b")), (row("c"), row("d"))))), row(row(("grid", ((row(), row()),)))),
    ),)))),
    ("\\grid{x^2&}", row(("grid", ((row(script("x", "2")), row()),)))),
    ("x^u", row(script("x", "u"))),
    ("x_d", row(script("x", None, "d"))),
    ("x^u_d", row(script("x", "u", "d"))),
    ("x_d^u", row(script("x", "u", "d"))),
    ("x ^ u _ d", row(script("x", "u", "d"))),
    ("x\n^\n{u}", row(script("x", row("u")))),
    ("ax^uv_d", row("a", script("x", "u"), script("v", None, "d"))),
    ("x^12", row(script("x", "1"), "2")),
    ("x^{12}_{}", row(script("x", row("12"), row()))),
    ("{x}^2", row(script(row("x"), "2"))),
    ("{x^2}^3", row(script(row(script("x", "2")), "3"))),
    ("{}_a", row(script(row(), None, "a"))),
    ("x^\\root{a}_\\over{b}{c}", row(script("x", ("root", row("a")), ("over", row("b"), row("c"))))),
    ("x_\\fence{()}{a}^\\grid{&}", row(
        script("x", ("grid", ((row(), row()),)), ("fence", "(", ")", row("a"))))),
    ("\\root{a}^2", row(script(("root", row("a")), "2"))),
    ("\\over{a}{b}_2^3", row(script(("over", row("a"), row("b")), "3", "2"))),
    ("\\grid{}^2", row(script(("grid", ((row(),),)), "2"))),
    ("\\fence{..}{}_2", row(script(("fence", "", "", row()), None, "2"))),
    ("a^b c^d", row(script("a", "b"), script("c", "d"))),
    ("a^{b^{c_d}}", row(script("a", row(script("b", row(script("c", None, "d"))))))),
    ("()", row("()")),
    ("|\"'`", row("|\"'`")),
)


class FormTest(Case):

    def test_example(self):
        self.assertEqual(read("x_1^2+\\root{y}"), row(script("x", "2", "1"), "+", ("root", row("y"))))

    def test_forms(self):
        for text, tree in FORMS:
            with self.subTest(text):
                tokens = tokenize(text)
                self.assertEqual(self.answer(read_formula, tokens, 0, len(tokens)), tree)

    def test_deep(self):
        for ahead, behind in (("{", "}"), ("\\root{", "}"), ("\\over{a}{", "}"), ("x^{", "}"), ("\\grid{", "}"),
                              ("x_\\fence{..}{", "}")):
            with self.subTest(ahead):
                tree = read(ahead * 12 + "a" + behind * 12)
                depth = 0
                while tree != row("a"):
                    parts = [part for part in tree if isinstance(part, tuple)]
                    tree = parts[-1] if isinstance(parts[-1][0], str) else parts[-1][0]
                    depth += 1
                self.assertGreaterEqual(depth, 12)

    def test_long(self):
        self.assertEqual(read("a" * 6000), row("a" * 6000))
        self.assertEqual(read("a^b" * 2000), row(*[script("a", "b")] * 2000))

    def test_only_the_given_tokens(self):
        tokens = tokenize("}^x_1{a}\\root{b}^")
        self.assertEqual(read_formula(tokens, 2, 2), row())
        self.assertEqual(read_formula(tokens, 2, 3), row("x"))
        self.assertEqual(read_formula(tokens, 2, 5), row(script("x", None, "1")))
        self.assertEqual(read_formula(tokens, 5, 12), row(row("a"), ("root", row("b"))))
        self.refused(BadText(1, 9, "group"), read_formula, tokens, 8, 9)
        self.refused(BadText(1, 4, "script"), read_formula, tokens, 2, 4)
        self.refused(BadText(1, 4, "base"), read_formula, tokens, 3, 5)
        self.refused(BadText(1, 1, "group"), read_formula, tokenize("\\root{"), 0, 1)


class RefusalTest(Case):

    def check(self, *rows):
        for text, line, column, what in rows:
            with self.subTest(text):
                self.refused(BadText(line, column, what), read, text)

    def test_base(self):
        self.check(
            ("^a", 1, 1, "base"), (" _a", 1, 2, "base"), ("a{^b}", 1, 3, "base"), ("x^{_b}", 1, 4, "base"),
            ("\\grid{a&^b}", 1, 9, "base"), ("\\grid{a\\\\\n_b}", 2, 1, "base"), ("\\over{a}{^}", 1, 10, "base"),
            ("^", 1, 1, "base"), ("^^", 1, 1, "base"), ("\\root{ _}", 1, 8, "base"),
        )

    def test_script(self):
        self.check(
            ("x^a^b", 1, 4, "script"), ("x_a_b", 1, 4, "script"), ("x^a_b^c", 1, 6, "script"),
            ("x_a^b_c", 1, 6, "script"), ("x^a^", 1, 4, "script"), ("x^", 1, 2, "script"), ("x_", 1, 2, "script"),
            ("x^ ", 1, 2, "script"), ("{x^}a", 1, 3, "script"), ("x^{a}\n^{b}", 2, 1, "script"),
            ("x^_a", 1, 2, "script"), ("x^^a", 1, 2, "script"), ("x^$", 1, 2, "script"), ("x^~a", 1, 2, "script"),
            ("x^\n\na", 1, 2, "script"), ("x^\\strong{a}", 1, 2, "script"), ("x_\\-", 1, 2, "script"),
            ("x_&", 1, 2, "script"), ("x_\\\\", 1, 2, "script"), ("x_#1", 1, 2, "script"), ("x^\\zz", 1, 2, "script"),
            ("\\grid{x^&a}", 1, 8, "script"), ("\\grid{x^\\\\a}", 1, 8, "script"), ("x^\\let", 1, 2, "script"),
        )

    def test_group(self):
        self.check(
            ("\\over", 1, 1, "group"), ("\\over{a}", 1, 1, "group"), ("\\over {a}{b}", 1, 1, "group"),
            ("\\over{a} {b}", 1, 1, "group"), ("\\root", 1, 1, "group"), ("\\root a", 1, 1, "group"),
            ("\\root\n{a}", 1, 1, "group"), ("\\fence{()}", 1, 1, "group"), ("\\fence", 1, 1, "group"),
            ("\\fence{()} {a}", 1, 1, "group"), ("\\grid", 1, 1, "group"), ("\\grid\n\n{a}", 1, 1, "group"),
            ("a\n\\root", 2, 1, "group"), ("x^\\root", 1, 3, "group"), ("x^\\over{a}b", 1, 3, "group"),
            ("{\\root}{a}", 1, 2, "group"), ("\\grid{\\root&{a}}", 1, 7, "group"),
            ("\\over{^}", 1, 1, "group"), ("\\fence{abc}", 1, 1, "group"),
        )

    def test_fence(self):
        self.check(
            ("\\fence{}{a}", 1, 1, "fence"), ("\\fence{(}{a}", 1, 1, "fence"), ("\\fence{(()}{a}", 1, 1, "fence"),
            ("\\fence{( )}{a}", 1, 1, "fence"), ("\\fence{ ()}{a}", 1, 1, "fence"), ("\\fence{() }{a}", 1, 1, "fence"),
            ("\\fence{(a}{a}", 1, 1, "fence"), ("\\fence{a)}{a}", 1, 1, "fence"), ("\\fence{{}{}}{a}", 1, 1, "fence"),
            ("\\fence{|.}{a}", 1, 1, "fence"), ("\\fence{(~}{a}", 1, 1, "fence"), ("b\n\\fence{<>}{a}", 2, 1, "fence"),
            ("\\fence{({)}}{a}", 1, 1, "fence"), ("\\fence{(\\-)}{a}", 1, 1, "fence"),
            ("\\fence{a}{^}", 1, 1, "fence"), ("\\fence{...}{a}", 1, 1, "fence"), ("\\fence{\\root{a}}{}", 1, 1, "fence"),
        )

    def test_the_brackets_of_a_fence_may_be_two_words(self):
        # They meet where a definition or a call stood.
        tokens = tokenize("\\fence{(}{a}")
        tokens.insert(3, ("word", ")", 9, 9))
        self.assertEqual(read_formula(tokens, 0, len(tokens)), row(("fence", "(", ")", row("a"))))

    def test_grid(self):
        self.check(
            ("\\grid{a&b\\\\c}", 1, 1, "grid"), ("\\grid{a\\\\b&c}", 1, 1, "grid"), ("\\grid{&\\\\}", 1, 1, "grid"),
            ("\\grid{a\\\\b\\\\&}", 1, 1, "grid"), ("b\n\\grid{^&\\\\a}", 2, 1, "grid"),
            ("\\grid{{&}\\\\&}", 1, 1, "grid"),
        )

    def test_place(self):
        self.check(
            ("$", 1, 1, "place"), ("~", 1, 1, "place"), ("a&", 1, 2, "place"), ("\\-", 1, 1, "place"),
            ("\\\\", 1, 1, "place"), ("a\n\nb", 1, 2, "place"), ("\\strong{a}", 1, 1, "place"), ("\\x", 1, 1, "place"),
            ("#1", 1, 1, "place"), ("{&}", 1, 2, "place"), ("\\grid{{a&b}}", 1, 9, "place"),
            ("\\over{a\\\\b}{c}", 1, 8, "place"), ("\\root{$}", 1, 7, "place"), ("\\grid{{a&}&b}", 1, 9, "place"),
            ("\\grid{a\n\n}", 1, 8, "place"), ("\\head{a}", 1, 1, "place"), ("x^a~", 1, 4, "place"),
            ("\\let", 1, 1, "place"),
        )

    def test_the_first_of_several(self):
        self.check(
            ("^$", 1, 1, "base"), ("$^", 1, 1, "place"), ("\\root^", 1, 1, "group"), ("x^a^\\root", 1, 4, "script"),
            ("\\over{$}{^}", 1, 7, "place"), ("\\over{^}{$}", 1, 7, "base"), ("\\grid{~&^}", 1, 7, "place"),
            ("\\grid{a&^\\\\$&b}", 1, 9, "base"), ("{x_}^", 1, 3, "script"), ("\\fence{()}{~}$", 1, 12, "place"),
            ("x^\\fence{a}{$}", 1, 3, "fence"), ("^\\root", 1, 1, "base"),
        )


if __name__ == "__main__":
    unittest.main()
