"""The examples of the interface, with just the answers that are written there."""

import unittest

from galleywork.errors import GalleyError
from helper import Case, fields_of

EXAMPLES = r'''
>>> from galleywork.tokens import tokenize
>>> tokenize("A \\-b\n\n{")
[('word', 'A', 1, 1), ('blank', ' ', 1, 2), ('hyph', '\\-', 1, 3), ('word', 'b', 1, 5), ('par', '\n\n', 1, 6), ('open', '{', 3, 1)]

>>> from galleywork.tokens import tokenize
>>> tokenize("a\n\\1")
raises BadText(2, 1, 'escape')

>>> from galleywork.macros import expand
>>> from galleywork.tokens import tokenize, written
>>> written(expand(tokenize("\\let\\x0{a}\\let\\y1{\\x#1}\\let\\x0{b}\\y{\\x}\\x c")))
'abb c'

>>> from galleywork.formread import read_formula
>>> from galleywork.tokens import tokenize
>>> tokens = tokenize("x_1^2+\\root{y}")
>>> read_formula(tokens, 0, len(tokens))
('row', (('script', ('sign', 'x'), ('sign', '2'), ('sign', '1')), ('sign', '+'), ('root', ('row', (('sign', 'y'),)))))

>>> from galleywork.reading import read_text
>>> read_text("\\head{A b\\label{s}}\n\nSee~\\ref{s}.")
[('head', (('word', 'A'), ('gap',), ('word', 'b'), ('label', 's'))), ('par', (('word', 'See'), ('tie',), ('ref', 's'), ('word', '.')))]

>>> from galleywork.numbering import resolve
>>> from galleywork.reading import read_text
>>> resolve(read_text("\\head{A\\label{s}}a\\note{b\\mark{c}}~\\ref{s}"))
[('head', 1, (('word', 'A'),)), ('par', (('word', 'a'), ('note', 1, (('word', 'b'), ('mark', 'c'))), ('tie',), ('word', '1')))]

>>> from galleywork.patterns import Patterns
>>> patterns = Patterns(("a2b1a", "b1a"), ("ba-ba",))
>>> (patterns.points("ababab"), patterns.points("Baba"), patterns.points("baab"))
([2], [2], [])

>>> from galleywork.boxes import bar_box, hull, stacked
>>> hull("row", [(0, 0, bar_box(3, 2, 1)), (4, 2, bar_box(2, 2, 1))])
('row', 6, 4, 1, ((0, 0, ('bar', 3, 2, 1, ())), (4, 2, ('bar', 2, 2, 1, ()))))
>>> stacked("unit", 9, bar_box(3, 2, 1), bar_box(4, 1, 0))
('unit', 9, 0, 4, ((0, -2, ('bar', 3, 2, 1, ())), (0, -4, ('bar', 4, 1, 0, ()))))

>>> from galleywork.boxes import bar_box
>>> from galleywork.formparts import script_box
>>> from galleywork.maths import MathSize
>>> m = MathSize(0, ("plain", 2, 1, 1, 3, 2, 2, 1, 3, ()))
>>> script_box(m, bar_box(4, 5, 0), bar_box(2, 4, 1), bar_box(3, 4, 0))
('script', 8, 8, 2, ((0, 0, ('bar', 4, 5, 0, ())), (5, 4, ('bar', 2, 4, 1, ())), (5, -2, ('bar', 3, 4, 0, ()))))

>>> from galleywork.ways import TableTask, solve
>>> task = TableTask([[(1, 1), (0, 2), (0, 3)], [(2, 4)], [(3, 4)], [], []])
>>> solve(task)
((0, 1, 4), ((0, 3), (1, 2), (2, 3), (3, None), (4, 0)))

>>> from galleywork.ways import TableTask
>>> TableTask([[(1, 1)], [(2, 1)], []])
raises BadTask(1)

>>> from galleywork.judging import judge
>>> from galleywork.ways import TableTask
>>> task = TableTask([[(1, 1), (0, 2)], [(0, 2)], []])
>>> (judge(task, (0, 2), ((0, 0), (1, 0), (2, 0))), judge(task, (0, 1, 2), ((0, 1), (1, 0), (2, 0))))
(True, False)

>>> from galleywork.sheet import Style
>>> from galleywork.solids import solids_of
>>> style = Style(("par", "f", "s", 0, 20, 0, "full", (0, 0, 0), (0, 0, 0)))
>>> solids_of(style, (("word", "a"), ("gap",), ("strong", (("tie",), ("word", "b"), ("mark", "c")))))
((('letter', 'f', 'a'), ('letter', 's', 'b')), (('tie', 'f'),), ((1, 'c'),))

>>> from galleywork.content import pieces_of
>>> solids = (("letter", "f", "a"), ("letter", "f", "b"), ("letter", "g", "c"))
>>> joints = (("hyph",), ("tie", "f"))
>>> (pieces_of(solids, joints, 0, 3, False), pieces_of(solids, joints, 0, 1, True))
([('word', 'f', 'ab', False), ('gap', 'f'), ('word', 'g', 'c', False)], [('word', 'f', 'a-', True)])

>>> from galleywork.evened import even_gaps
>>> from galleywork.glue import Glue
>>> glues = [Glue(2, 1, 1), Glue(2, 2, 1)]
>>> (even_gaps(glues, 4, True), even_gaps(glues, 4, False), even_gaps(glues, -1, True))
([3, 5], [2, 2], [2, 1])

>>> from galleywork.pagetask import PageTask
>>> from galleywork.ways import solve
>>> units = [(2, (0, 0, 0), 0), (2, (0, 1, 0), 150), (2, (0, 1, 0), 150), (2, (1, 2, 1), 0), (2, (0, 1, 0), 150), (2, (1, 2, 1), 0)]
>>> task = PageTask(units, [(3, 4)], [(1, True, 2), (1, False, 2)], height=9)
>>> way, paper = solve(task)
>>> (way, paper[0], task.page_cost((0, 0, 0), (2, 1, 0)))
(((0, 0, 0), (2, 1, 0), (5, 1, 1), (6, 1, 2)), ((0, 0, 0), 36900), 34600)

>>> from galleywork.boxes import bar_box
>>> from galleywork.devwrite import device_text, page_ink
>>> word = ("word", 6, 4, 0, ((0, 0, ("sign", 3, 4, 0, ("f", "a", "a"))), (2, 0, ("sign", 4, 4, 0, ("f", "b", "b")))))
>>> page = ("page", 20, 0, 30, ((1, -5, word), (0, -9, bar_box(20, 0, 1))))
>>> device_text([page])
'page 1\npush\nright 1\ndown 5\nfont f\nput a\nright -1\nput b\npop\npush\ndown 9\nbar 20 0 1\npop'
>>> page_ink([page])
[('sign', 1, 1, 5, 'f', 'a'), ('sign', 1, 3, 5, 'f', 'b'), ('bar', 1, 0, 9, 20, 0, 1)]

>>> from galleywork.tails import common_tail
>>> common_tail([1, 2, 3], (3, 2, 3))
2

>>> from galleywork.backmatter import page_numbers
>>> page_numbers(((0, 0, 0), (2, 1, 0), (5, 1, 1), (6, 1, 2)))
((1, 1, 2, 2, 2, 3), (1,), (2, 3))

>>> from galleywork.book import Book
>>> from galleywork.galleys import Galley
>>> from galleywork.listing import show_pages
>>> from galleywork.sheet import Sheet
>>> signs = (("-", 2, 4, 0), (".", 2, 4, 0), ("0", 2, 4, 0), ("1", 2, 4, 0), ("2", 2, 4, 0), ("3", 2, 4, 0), ("4", 2, 4, 0), ("5", 2, 4, 0), ("6", 2, 4, 0), ("7", 2, 4, 0), ("8", 2, 4, 0), ("9", 2, 4, 0), ("a", 3, 4, 0), ("b", 4, 4, 0))
>>> size = ("f", 2, 1, 1, 3, 2, 2, 1, 3, ())
>>> book = Book((("f", 5, 2, (2, 1, 1), signs, (("a", "b", -1),), ()),), (size, size, size))
>>> style = ("f", "f", 1, 18, 0, "full", (0, 0, 0), (0, 0, 0))
>>> par = ("par", "f", "f", 1, 18, 2, "full", (0, 0, 0), (0, 0, 0))
>>> styles = (("back",) + style, ("caption",) + style, ("cell",) + style, ("display",) + style, ("head",) + style, ("item",) + style, ("note",) + style, par, ("quote",) + style)
>>> sheet = Sheet(book, 20, 30, styles)
>>> galley = Galley(sheet, "\\head{ab} b\\mark{a}")
>>> (galley.work(), galley.contents(), galley.index_rows())
((4, 0, 0, 6), [(1, 1)], [('a', (1,))])
>>> galley.edit(11, put="b")
(1, 0, 0, 0)
>>> show_pages(galley.pages())
'page    1\n     5     1  ab\n    12     3  bb\npage    2\n     5     1  1. ab 1\n    12     1  a 1'

>>> from galleywork.listing import show_page
>>> word = ("word", 6, 4, 0, ((0, 0, ("sign", 3, 4, 0, ("f", "a", "a"))), (2, 0, ("sign", 4, 4, 0, ("f", "b", "b")))))
>>> show_page(12, ("page", 20, 0, 30, ((1, -5, ("line", 18, 5, 2, ((2, 0, word), (10, 0, word)))),)))
'page   12\n     5     3  ab ab'
'''


def answer_to(code, names):
    """What a line of an example gives: the value of an expression, or None."""
    try:
        return eval(compile(code, "example", "eval"), names)
    except SyntaxError:
        exec(compile(code, "example", "exec"), names)
        return None


class ExamplesTest(Case):

    def check(self, code, expected, names):
        if expected.startswith("raises "):
            with self.assertRaises(GalleyError) as caught:
                answer_to(code, names)
            name, *fields = fields_of(caught.exception)
            self.assertEqual("raises {}({})".format(name, ", ".join(map(repr, fields))), expected)
        else:
            self.assertEqual(repr(answer_to(code, names)), expected)

    def test_examples(self):
        checked = 0
        for example in EXAMPLES.strip().split("\n\n"):
            with self.subTest(example):
                names = {}
                lines = example.split("\n")
                for line, following in zip(lines, lines[1:] + [">>> "]):
                    if line.startswith(">>> ") and following.startswith(">>> "):
                        answer_to(line[4:], names)
                    elif line.startswith(">>> "):
                        self.check(line[4:], following, names)
                        checked += 1
        self.assertEqual(checked, 25)


if __name__ == "__main__":
    unittest.main()
