"""Numbers and resolved blocks: [13]."""

import unittest

from galleywork.numbering import label_numbers, marks_of, notes_of, resolve
from galleywork.reading import read_text
from helper import Case

GAP = ("gap",)
A, B = ("word", "a"), ("word", "b")


def resolved(text):
    """The resolved blocks of a text."""
    return resolve(read_text(text))


class LabelTest(Case):

    def check(self, text, **numbers):
        with self.subTest(text):
            self.assertEqual(self.answer(label_numbers, read_text(text)), numbers)

    def test_none(self):
        self.check("")
        self.check("a\n\n\\head{b}\\display{c}\\newpage")

    def test_heads(self):
        self.check("\\head{a\\label{s}}\\head{b\\label{t}}", s=1, t=2)

    def test_ahead_of_any_head(self):
        self.check("a\\label{s}\\quote{b\\label{t}}\\head{c}", s=0, t=0)

    def test_behind_a_head(self):
        self.check("\\head{a}b\\label{s}\n\n\\head{c}\\head{d}\\quote{e\\label{t}}\\table{5}{\\label{u}}", s=1, t=3, u=3)

    def test_items(self):
        self.check("\\item{a\\label{s}}\\item{b\\label{t}}c\\item{d\\label{u}}", s=1, t=2, u=1)
        self.check("\\head{a}\\head{b}\\item{c\\label{s}}", s=1)

    def test_floats(self):
        self.check("\\head{a}\\float{5}{\\label{s}}b\\label{t}\\float{5}{\\strong{\\label{u}}}", s=1, t=1, u=2)

    def test_notes(self):
        self.check("a\\note{b\\label{s}}\\note{c\\strong{\\label{t}}}\\label{u}", s=1, t=2, u=0)
        self.check("\\head{a\\note{b}\\note{c\\label{s}}\\label{t}}", s=2, t=1)
        self.check("\\item{a\\note{b}}\\item{a\\strong{\\note{b\\label{s}}\\label{t}}}", s=2, t=2)

    def test_cells(self):
        self.check("\\head{h}\\table{5 5}{\\label{s}a\\note{b}&\\note{c\\label{t}}\\\\\\label{u}&\\note{d\\label{v}}}",
                   s=1, t=2, u=1, v=3)

    def test_strongs(self):
        self.check("\\head{\\strong{a\\strong{\\label{s}}}}b\\strong{\\label{t}}", s=1, t=1)
        self.check("a\\strong{\\note{b}\\strong{\\note{c}}}\\note{d\\label{s}}", s=3)


class ResolveTest(Case):

    def check(self, text, *blocks):
        with self.subTest(text):
            self.assertEqual(self.answer(resolve, read_text(text)), list(blocks))

    def test_example(self):
        self.check("\\head{A\\label{s}}a\\note{b\\mark{c}}~\\ref{s}",
                   ("head", 1, (("word", "A"),)),
                   ("par", (A, ("note", 1, (B, ("mark", "c"))), ("tie",), ("word", "1"))))

    def test_each_kind(self):
        row = ("row", (("sign", "x"),))
        self.check("")
        self.check("a", ("par", (A,)))
        self.check("\\head{a}", ("head", 1, (A,)))
        self.check("\\item{a}", ("item", 1, (A,)))
        self.check("\\quote{a}", ("quote", (A,)))
        self.check("\\display{x}", ("display", row))
        self.check("\\table{5 6}{a&b\\\\&$x$}", ("table", (5, 6), (((A,), (B,)), ((), (("formula", row),)))))
        self.check("\\float{5}{a}", ("float", 1, 5, (A,)))
        self.check("\\newpage", ("newpage",))

    def test_numbers(self):
        self.check(
            "\\head{a}\\item{a}\\item{b}\\float{5}{}\\item{a}\\head{b}\\item{a}\\newpage\\item{b}\\float{6}{b}",
            ("head", 1, (A,)), ("item", 1, (A,)), ("item", 2, (B,)), ("float", 1, 5, ()), ("item", 1, (A,)),
            ("head", 2, (B,)), ("item", 1, (A,)), ("newpage",), ("item", 1, (B,)), ("float", 2, 6, (B,)))

    def test_runs_of_items(self):
        for between in ("a", "\\head{a}", "\\quote{a}", "\\display{a}", "\\table{5}{a}", "\\float{5}{a}", "\\newpage"):
            found = resolved("\\item{a}\\item{b}" + between + "\\item{a}\n\n\\item{b}\\item{a}")
            with self.subTest(between):
                self.assertEqual([block[1] for block in found if block[0] == "item"], [1, 2, 1, 2, 3])

    def test_notes(self):
        self.check("a\\note{b}\n\n\\head{\\note{a}\\strong{\\note{b}}}",
                   ("par", (A, ("note", 1, (B,)))),
                   ("head", 1, (("note", 2, (A,)), ("strong", (("note", 3, (B,)),)))))
        self.check("\\table{5 5}{\\note{a}&\\strong{\\note{b}}\\\\\\note{b}&\\note{a}}\\item{\\note{a}}\\quote{\\note{b}}",
                   ("table", (5, 5), (((("note", 1, (A,)),), (("strong", (("note", 2, (B,)),)),)),
                                      ((("note", 3, (B,)),), (("note", 4, (A,)),)))),
                   ("item", 1, (("note", 5, (A,)),)), ("quote", (("note", 6, (B,)),)))

    def test_refs(self):
        self.check("\\ref{s}\\head{a\\label{s}}\\ref{s}\\ref{s}",
                   ("par", (("word", "1"),)), ("head", 1, (A,)), ("par", (("word", "1"), ("word", "1"))))
        self.check("a\\label{s}\\ref{s}", ("par", (A, ("word", "0"))))
        self.check("\\table{5}{\\strong{\\ref{s}}}a\\note{\\ref{s}\\label{s}}\\float{5}{\\ref{s}}",
                   ("table", (5,), (((("strong", (("word", "1"),)),),),)),
                   ("par", (A, ("note", 1, (("word", "1"),)))), ("float", 1, 5, (("word", "1"),)))

    def test_numbers_of_several_digits(self):
        text = "".join("\\item{a}" for _ in range(11)) + "\\item{b\\label{s}}\\ref{s}"
        self.assertEqual(resolved(text)[-2:], [("item", 12, (B,)), ("par", (("word", "12"),))])

    def test_neighbours_are_not_joined(self):
        self.check("a\\label{s}b \\label{t} \\ref{s}a", ("par", (A, B, GAP, GAP, ("word", "0"), A)))
        self.check("\\label{s} a \\label{t}", ("par", (GAP, A, GAP)))
        self.check("\\table{5}{\\label{s} }", ("table", (5,), (((),),)))
        self.check("\\strong{\\label{s}}a", ("par", (("strong", ()), A)))

    def test_everything_else_stays(self):
        inlines = (A, ("tie",), ("hyph",), ("cut",), ("strong", (GAP, ("mark", "m"))), ("formula", ("row", ())))
        self.check("a~\\-\\\\\\strong{ \\mark{m}}$$", ("par", inlines))


class NotesTest(Case):

    def check(self, text, *notes):
        blocks = resolved(text)
        with self.subTest(text):
            self.assertEqual([note for block in blocks for note in self.answer(notes_of, block)], list(notes))

    def test_none(self):
        for text in ("a", "\\head{a}", "\\item{a}", "\\quote{a}", "\\display{a}", "\\table{5}{a}", "\\float{5}{a}", "\\newpage"):
            self.check(text)

    def test_each_kind(self):
        for text in ("\\note{a}", "\\head{\\note{a}}", "\\item{\\note{a}}", "\\quote{\\note{a}}", "\\table{5}{\\note{a}}",
                     "\\strong{\\strong{\\note{a}}}"):
            self.check(text, (1, (A,)))

    def test_order(self):
        self.check("a\\note{b}\\strong{\\note{a}}\\note{b}", (1, (B,)), (2, (A,)), (3, (B,)))
        self.check("\\note{a}\n\n\\table{5 5}{\\note{b}&\\note{a}\\\\\\strong{\\note{b}}&}",
                   (1, (A,)), (2, (B,)), (3, (A,)), (4, (B,)))

    def test_the_second_block(self):
        blocks = resolved("a\\note{b}\n\nb\\note{a \\ref{s}\\label{s}}")
        self.assertEqual(notes_of(blocks[1]), [(2, (A, GAP, ("word", "2")))])


class MarksTest(Case):

    def test_marks(self):
        for text, words in (
            ("a", []), ("\\mark{m}a", ["m"]), ("\\mark{m}a\\strong{\\mark{l}\\strong{\\mark{m}}}\\mark{k}", ["m", "l", "m", "k"]),
            ("a\\note{b\\mark{m}}", []), ("\\mark{m}\\strong{\\note{b\\mark{n}}\\mark{o}}", ["m", "o"]),
        ):
            with self.subTest(text):
                self.assertEqual(self.answer(marks_of, read_text(text)[0][1]), words)
                self.assertEqual(self.answer(marks_of, resolved(text)[0][1]), words)

    def test_nothing(self):
        self.assertEqual(marks_of(()), [])


if __name__ == "__main__":
    unittest.main()
