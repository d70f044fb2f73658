"""The content of a line: [30]."""

import unittest

from galleywork.content import pieces_glue, pieces_of
from galleywork.glue import Glue
from galleywork.solids import solids_of
from helper import Case, inlines_of, row_of, style_of, told_font, works_of

X = ("formula", row_of("x"))
NONE, HYPH, CUT = ("none",), ("hyph",), ("cut",)


def letters(text, font="f"):
    return tuple(("letter", font, char) for char in text)


class PiecesTest(Case):

    def pieces(self, solids, joints, i, j, hyphen=False):
        found = self.answer(pieces_of, solids, joints, i, j, hyphen)
        self.assertIs(type(found), list)
        return found

    def test_example(self):
        solids = (*letters("ab"), *letters("c", "g"))
        joints = (HYPH, ("tie", "f"))
        self.assertEqual(self.pieces(solids, joints, 0, 3),
                         [("word", "f", "ab", False), ("gap", "f"), ("word", "g", "c", False)])
        self.assertEqual(self.pieces(solids, joints, 0, 1, True), [("word", "f", "a-", True)])

    def test_runs(self):
        for joint in (NONE, HYPH):
            self.assertEqual(self.pieces(letters("abc"), (joint, joint), 0, 3), [("word", "f", "abc", False)])
            self.assertEqual(self.pieces(letters("abc"), (joint, joint), 1, 3), [("word", "f", "bc", False)])
            self.assertEqual(self.pieces(letters("abc"), (joint, joint), 1, 2), [("word", "f", "b", False)])
        self.assertEqual(self.pieces(letters("a-1!"), (NONE, HYPH, NONE), 0, 4), [("word", "f", "a-1!", False)])

    def test_two_fonts(self):
        solids = (*letters("ab"), *letters("cd", "g"), *letters("e"))
        self.assertEqual(self.pieces(solids, (NONE, NONE, HYPH, NONE), 0, 5),
                         [("word", "f", "ab", False), ("word", "g", "cd", False), ("word", "f", "e", False)])
        self.assertEqual(self.pieces(solids, (NONE, HYPH, NONE, NONE), 1, 3),
                         [("word", "f", "b", False), ("word", "g", "c", False)])

    def test_formulas_and_notes_between_letters(self):
        solids = (*letters("a"), X, ("note", 3), *letters("b"), X, X)
        self.assertEqual(self.pieces(solids, (NONE,) * 5, 0, 6), [
            ("word", "f", "a", False), X, ("note", 3), ("word", "f", "b", False), X, X])
        self.assertEqual(self.pieces(solids, (NONE,) * 5, 1, 3), [X, ("note", 3)])
        self.assertEqual(self.pieces(solids, (NONE, ("tie", "g"), ("gap", "f"), CUT, ("gap", "g")), 0, 6), [
            ("word", "f", "a", False), X, ("gap", "g"), ("note", 3), ("gap", "f"), ("word", "f", "b", False), X,
            ("gap", "g"), X])

    def test_gaps_and_ties_of_either_font(self):
        solids = letters("abcde")
        joints = (("gap", "f"), ("gap", "g"), ("tie", "f"), ("tie", "g"))
        self.assertEqual(self.pieces(solids, joints, 0, 5), [
            ("word", "f", "a", False), ("gap", "f"), ("word", "f", "b", False), ("gap", "g"), ("word", "f", "c", False),
            ("gap", "f"), ("word", "f", "d", False), ("gap", "g"), ("word", "f", "e", False)])

    def test_gaps_at_the_ends(self):
        solids = letters("abcde")
        joints = (("gap", "f"), NONE, NONE, ("tie", "f"))
        self.assertEqual(self.pieces(solids, joints, 1, 4), [("word", "f", "bcd", False)])
        self.assertEqual(self.pieces(solids, joints, 0, 4), [("word", "f", "a", False), ("gap", "f"), ("word", "f", "bcd", False)])
        self.assertEqual(self.pieces(solids, joints, 1, 5), [("word", "f", "bcd", False), ("gap", "f"), ("word", "f", "e", False)])

    def test_a_cut_within(self):
        self.assertEqual(self.pieces(letters("abc"), (CUT, NONE), 0, 3),
                         [("word", "f", "a", False), ("word", "f", "bc", False)])

    def test_a_hyphen_makes_the_last_word_parted(self):
        solids = (*letters("ab"), *letters("cd"), *letters("ef", "g"))
        joints = (NONE, ("gap", "f"), NONE, NONE, NONE)
        for j, pieces in (
            (1, [("word", "f", "a-", True)]),
            (2, [("word", "f", "ab-", True)]),
            (3, [("word", "f", "ab", False), ("gap", "f"), ("word", "f", "c-", True)]),
            (4, [("word", "f", "ab", False), ("gap", "f"), ("word", "f", "cd-", True)]),
            (5, [("word", "f", "ab", False), ("gap", "f"), ("word", "f", "cd", False), ("word", "g", "e-", True)]),
        ):
            self.assertEqual(self.pieces(solids, joints, 0, j, True), pieces)

    def test_a_text(self):
        solids, joints, _ = solids_of(style_of(strong="s"), inlines_of("a\\-b \\strong{c~$x$}\\note{e}d"))
        self.assertEqual(self.pieces(solids, joints, 0, 6), [
            ("word", "f", "ab", False), ("gap", "f"), ("word", "s", "c", False), ("gap", "s"), X, ("note", 1),
            ("word", "f", "d", False)])

    def test_long_lines(self):
        solids = letters("ab" * 3000)
        self.assertEqual(pieces_of(solids, (NONE,) * 5999, 0, 6000, False), [("word", "f", "ab" * 3000, False)])
        pieces = pieces_of(solids, (("gap", "f"),) * 5999, 0, 6000, False)
        self.assertEqual(len(pieces), 11999)


class GlueTest(Case):

    def setUp(self):
        self.works = works_of(
            told_font("f", {"a": 3, "b": 5, "ab": 6, "x": 11}, gap=(20, 7, 4), kerns=(("b", "a", -1), ("b", "-", 1)),
                      joins=(("a", "b", "ab"),)),
            told_font("g", {"a": 30, "1": 9}, gap=(200, 70, 40)))

    def glue(self, pieces):
        found = self.answer(pieces_glue, self.works, pieces)
        self.assertIsInstance(found, Glue)
        return found.plain()

    def test_pieces(self):
        for pieces, numbers in (
            ([], (0, 0, 0)),
            ([("word", "f", "a", False)], (3, 0, 0)),
            ([("word", "f", "aba", False)], (9, 0, 0)),
            ([("word", "f", "bba", False)], (12, 0, 0)),
            ([("word", "f", "b-", True)], (8, 0, 0)),
            ([("word", "g", "a", False)], (30, 0, 0)),
            ([("gap", "f")], (20, 7, 4)),
            ([("gap", "g"), ("gap", "f"), ("gap", "g")], (420, 147, 84)),
            ([("formula", row_of("xx"))], (22, 0, 0)),
            ([("formula", ("row", ()))], (0, 0, 0)),
            ([("note", 12)], (4, 0, 0)),
            ([("word", "f", "a", False), ("gap", "f"), ("formula", row_of("x")), ("note", 7), ("gap", "g"),
              ("word", "g", "a1", False)], (275, 77, 44)),
        ):
            with self.subTest(pieces):
                self.assertEqual(self.glue(pieces), numbers)

    def test_which_boxes_are_asked_for(self):
        asked = []

        class Asked:
            book = self.works.book

            def word(self, font, letters, kind):
                asked.append(("word", font, letters, kind))
                return (kind, 1, 100, 100, ())

            def formula(self, row):
                asked.append(("formula", row))
                return ("row", 10, 100, 100, ())

            def mark(self, n):
                asked.append(("mark", n))
                return ("mark", 100, 100, 100, ())

        glue = pieces_glue(Asked(), [("word", "g", "ab", False), ("formula", row_of("x")), ("note", 5), ("gap", "g"),
                                     ("word", "f", "a-", True)])
        self.assertEqual(glue.plain(), (312, 70, 40))
        self.assertEqual(asked, [("word", "g", "ab", "word"), ("formula", row_of("x")), ("mark", 5),
                                 ("word", "f", "a-", "parted")])


if __name__ == "__main__":
    unittest.main()
