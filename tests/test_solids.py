"""Solids, joints and marks: [29]."""

import unittest

from galleywork.solids import item_inlines, note_inlines, solids_of
from helper import Case, inlines_of, style_of

NONE, CUT, HYPH = ("none",), ("cut",), ("hyph",)
GAP, TIE = ("gap",), ("tie",)
X = ("row", (("sign", "x"),))


def word(letters):
    return ("word", letters)


def letter(char, font="f"):
    return ("letter", font, char)


class SolidsCase(Case):

    def setUp(self):
        self.style = style_of(font="f", strong="s")

    def told(self, *inlines):
        found = self.answer(solids_of, self.style, inlines)
        self.assertIs(type(found), tuple)
        self.assertEqual([type(part) for part in found], [tuple] * 3)
        return found

    def joint(self, *between, left=word("a"), right=word("b")):
        """The joint between two solids, between which these inlines stand."""
        solids, joints, marks = self.told(left, *between, right)
        self.assertEqual((len(solids), len(joints), marks), (2, 1, ()))
        return joints[0]


class SolidsTest(SolidsCase):

    def test_example(self):
        self.assertEqual(
            self.told(word("a"), ("gap",), ("strong", (("tie",), word("b"), ("mark", "c")))),
            ((letter("a"), letter("b", "s")), (("tie", "f"),), ((1, "c"),)))

    def test_every_kind_in_order(self):
        self.assertEqual(
            self.told(word("ab"), ("formula", X), ("note", 7, (word("z"),)), word("c"), ("note", 8, ())),
            ((letter("a"), letter("b"), ("formula", X), ("note", 7), letter("c"), ("note", 8)), (NONE,) * 5, ()))

    def test_no_solids_and_one(self):
        self.assertEqual(self.told(), ((), (), ()))
        self.assertEqual(self.told(GAP, HYPH, CUT, TIE), ((), (), ()))
        self.assertEqual(self.told(("strong", ())), ((), (), ()))
        for inline, solid in ((word("a"), letter("a")), (("formula", X), ("formula", X)), (("note", 3, ()), ("note", 3))):
            self.assertEqual(self.told(inline), ((solid,), (), ()))
            self.assertEqual(self.told(GAP, HYPH, inline, CUT, TIE), ((solid,), (), ()))

    def test_strongs_within_one_another(self):
        self.assertEqual(
            self.told(word("a"), ("strong", (word("b"), ("strong", (word("c"), ("formula", X))), word("d"))), word("e")),
            ((letter("a"), letter("b", "s"), letter("c", "s"), ("formula", X), letter("d", "s"), letter("e")), (NONE,) * 5, ()))

    def test_words_that_are_neighbours(self):
        self.assertEqual(self.told(word("a"), word("b")), ((letter("a"), letter("b")), (NONE,), ()))

    def test_the_inlines_of_a_note_are_not_read(self):
        inside = (word("z"), GAP, ("formula", X), ("mark", "m"), ("strong", (word("y"),)), CUT)
        self.assertEqual(self.told(word("a"), GAP, ("note", 12, inside), word("b")),
                         ((letter("a"), ("note", 12), letter("b")), (("gap", "f"), NONE), ()))

    def test_a_text(self):
        self.assertEqual(
            self.answer(solids_of, self.style, inlines_of("a\\-b \\strong{c~$x$}\\\\d\\mark{m}\\note{e}")),
            ((letter("a"), letter("b"), letter("c", "s"), ("formula", X), letter("d"), ("note", 1)),
             (HYPH, ("gap", "f"), ("tie", "s"), CUT, NONE), ((4, "m"),)))


class JointTest(SolidsCase):

    def test_each_joint(self):
        for between, joint in (
            ((), NONE), ((GAP,), ("gap", "f")), ((TIE,), ("tie", "f")), ((HYPH,), HYPH), ((CUT,), CUT),
            ((("strong", ()),), NONE), ((("strong", (GAP,)),), ("gap", "s")), ((("strong", (TIE,)),), ("tie", "s")),
            ((("strong", (HYPH,)),), HYPH), ((("strong", (CUT,)),), CUT),
        ):
            with self.subTest(between):
                self.assertEqual(self.joint(*between), joint)

    def test_which_one_wins(self):
        for k in range(16):
            chosen = [inline for at, inline in enumerate((CUT, TIE, GAP, HYPH)) if k >> at & 1]
            expected = NONE
            if chosen:
                expected = chosen[0] if chosen[0] in (CUT, HYPH) else (chosen[0][0], "f")
            for between in (chosen, chosen[::-1], chosen[1:] + chosen[:1]):
                with self.subTest(between):
                    self.assertEqual(self.joint(*between), expected)
                    self.assertEqual(self.joint(("strong", ()), *between, ("strong", ())), expected)

    def test_a_hyph_needs_letters(self):
        for left, right, joint in (
            (word("a"), word("b"), HYPH), (word("."), word("1"), HYPH), (("formula", X), word("b"), NONE),
            (word("a"), ("formula", X), NONE), (("note", 1, ()), word("b"), NONE), (word("a"), ("note", 1, ()), NONE),
            (("formula", X), ("note", 1, ()), NONE), (("strong", (word("a"),)), word("b"), HYPH),
        ):
            with self.subTest((left, right)):
                self.assertEqual(self.joint(HYPH, left=left, right=right), joint)
                self.assertEqual(self.joint(HYPH, HYPH, left=left, right=right), joint)
                self.assertEqual(self.joint(HYPH, GAP, left=left, right=right), ("gap", "f"))
                self.assertEqual(self.joint(TIE, HYPH, left=left, right=right), ("tie", "f"))
                self.assertEqual(self.joint(CUT, HYPH, left=left, right=right), CUT)
                self.assertEqual(self.joint(GAP, left=left, right=right), ("gap", "f"))

    def test_the_font_of_the_first_gap_or_tie(self):
        strong_gap, strong_tie = ("strong", (GAP,)), ("strong", (TIE,))
        for between, joint in (
            ((GAP, strong_gap), ("gap", "f")), ((strong_gap, GAP), ("gap", "s")),
            ((GAP, strong_tie), ("tie", "f")), ((strong_tie, GAP), ("tie", "s")),
            ((strong_gap, TIE), ("tie", "s")), ((TIE, strong_gap), ("tie", "f")),
            ((HYPH, strong_gap, TIE), ("tie", "s")), ((("strong", (HYPH,)), GAP), ("gap", "f")),
            ((strong_gap, CUT), CUT), ((("strong", (("strong", (GAP,)),)), GAP), ("gap", "s")),
        ):
            with self.subTest(between):
                self.assertEqual(self.joint(*between), joint)

    def test_the_edge_of_a_strong(self):
        for left, between, right, joint in (
            (("strong", (word("a"), GAP)), (), word("b"), ("gap", "s")),
            (("strong", (word("a"),)), (GAP,), word("b"), ("gap", "f")),
            (("strong", (word("a"), GAP)), (GAP,), word("b"), ("gap", "s")),
            (word("a"), (GAP,), ("strong", (TIE, word("b"))), ("tie", "f")),
            (word("a"), (), ("strong", (TIE, word("b"))), ("tie", "s")),
            (("strong", (word("a"), HYPH)), (), ("strong", (word("b"),)), HYPH),
            (("strong", (word("a"), CUT)), (TIE,), word("b"), CUT),
        ):
            with self.subTest((left, between, right)):
                self.assertEqual(self.joint(*between, left=left, right=right), joint)

    def test_inlines_at_the_ends(self):
        self.assertEqual(self.told(CUT, TIE, word("ab"), TIE, CUT), ((letter("a"), letter("b")), (NONE,), ()))
        self.assertEqual(self.told(HYPH, word("a"), GAP, word("b"), CUT), ((letter("a"), letter("b")), (("gap", "f"),), ()))

    def test_a_joint_is_not_remembered(self):
        self.assertEqual(self.told(word("a"), CUT, word("b"), word("cd"), TIE, word("e"))[1], (CUT, NONE, NONE, ("tie", "f")))


class MarksTest(SolidsCase):

    def test_places(self):
        self.assertEqual(
            self.told(("mark", "p"), word("ab"), ("mark", "q"), GAP, ("mark", "r"), ("strong", (("mark", "s"), word("c"),
                      ("mark", "t"))), ("formula", X), ("mark", "u"), ("mark", "u")),
            ((letter("a"), letter("b"), letter("c", "s"), ("formula", X)), (NONE, ("gap", "f"), NONE),
             ((0, "p"), (1, "q"), (1, "r"), (1, "s"), (2, "t"), (3, "u"), (3, "u"))))

    def test_without_solids(self):
        self.assertEqual(self.told(("mark", "p"), GAP, ("strong", (("mark", "q"),))), ((), (), ((0, "p"), (0, "q"))))
        self.assertEqual(self.told(("mark", "p"), word("a"), ("mark", "q")), ((letter("a"),), (), ((0, "p"), (0, "q"))))

    def test_marks_make_no_difference_to_joints(self):
        for between in ((), (GAP,), (TIE,), (CUT,), (HYPH,)):
            solids, joints, _ = self.told(word("a"), ("mark", "m"), *between, ("mark", "m"), word("b"))
            self.assertEqual(joints, (self.joint(*between),))


class NumbersTest(Case):

    def test_items(self):
        inlines = (word("a"), GAP, word("b"))
        for n in (1, 12, 750):
            self.assertEqual(self.answer(item_inlines, n, inlines), (word(str(n) + "."), TIE, *inlines))
        self.assertEqual(item_inlines(3, ()), (word("3."), TIE))

    def test_notes(self):
        inlines = (word("a"), GAP, word("b"))
        for n in (1, 12, 750):
            self.assertEqual(self.answer(note_inlines, n, inlines), (("note", n, ()), TIE, *inlines))
        self.assertEqual(note_inlines(3, ()), (("note", 3, ()), TIE))

    def test_their_solids(self):
        style = style_of()
        self.assertEqual(solids_of(style, item_inlines(42, (word("a"),))),
                         ((letter("4"), letter("2"), letter("."), letter("a")), (NONE, NONE, ("tie", "f")), ()))
        self.assertEqual(solids_of(style, note_inlines(42, (word("a"),))),
                         ((("note", 42), letter("a")), (("tie", "f"),), ()))


if __name__ == "__main__":
    unittest.main()
