"""Places, chunks and word points: [31]."""

import unittest

from galleywork.places import chunks, place_kinds, word_points
from galleywork.solids import solids_of
from helper import Case, Dice, inlines_of, row_of, style_of, told_font, works_of

X = ("formula", row_of("x"))
NONE, HYPH, CUT, GAP, TIE = ("none",), ("hyph",), ("cut",), ("gap", "f"), ("tie", "f")
LETTERS = {char: 2 for char in "abcdxyzABCDZ'!"}


def letters(text, font="f"):
    return tuple(("letter", font, char) for char in text)


class PointsTest(Case):

    def setUp(self):
        # A word may be broken ahead of each c but the first letter's, and behind each "ab" of a word "xabab".
        self.works = works_of(told_font("f", LETTERS), told_font("g", LETTERS), patterns=("1c",), exceptions=("xa-ba-b",))

    def points(self, solids, joints):
        return self.answer(word_points, self.works.book, solids, joints)

    def test_words(self):
        for text, points in (
            ("", []), ("a", []), ("aacaaa", [2]), ("aaCAAA", [2]), ("aacacaca", [2, 4]), ("caaaa", []), ("aaaac", []),
            ("xabab", [2, 4]), ("XabaB", [2, 4]), ("xaba", []),
        ):
            with self.subTest(text):
                self.assertEqual(self.points(letters(text), (NONE,) * (len(text) - 1)), points)

    def test_all_letters(self):
        works = works_of(told_font("f", {}), exceptions=("a-z", "z-a"))
        for text, points in (("az", [1]), ("AZ", [1]), ("aZ", [1]), ("za", [1]), ("zz", [])):
            self.assertEqual(word_points(works.book, letters(text), (NONE,)), points)

    def test_positions_behind_other_solids(self):
        solids = (*letters("ab"), X, *letters("xabab"), ("note", 1), *letters("aacaaa"))
        self.assertEqual(self.points(solids, (NONE,) * (len(solids) - 1)), [5, 7, 11])

    def test_characters_that_are_no_letters(self):
        for text, points in (("1xabab", [3, 5]), ("xabab.", [2, 4]), ("xab'ab", []), ("xab1ab", []), ("aaca-aacaaa", [7]),
                             ("xabab-xabab", [2, 4, 8, 10]), ("-", []), ("1.", [])):
            with self.subTest(text):
                self.assertEqual(self.points(letters(text), (NONE,) * (len(text) - 1)), points)

    def test_other_joints_part_words(self):
        for joint in (HYPH, CUT, GAP, TIE, ("gap", "g"), ("tie", "g")):
            for k in range(4):
                joints = tuple(joint if at == k else NONE for at in range(4))
                self.assertEqual(self.points(letters("xabab"), joints), [])
            self.assertEqual(self.points(letters("xababxabab"), (*(NONE,) * 4, joint, *(NONE,) * 4)), [2, 4, 7, 9])
        self.assertEqual(self.points(letters("xababxabab"), (NONE,) * 9), [])

    def test_words_across_fonts(self):
        for k in range(6):
            solids = (*letters("xabab"[:k]), *letters("xabab"[k:], "g"))
            self.assertEqual(self.points(solids, (NONE,) * 4), [2, 4])

    def test_formulas_part_words(self):
        for solid in (X, ("note", 2)):
            self.assertEqual(self.points((*letters("xa"), solid, *letters("bab")), (NONE,) * 5), [])

    def test_a_text(self):
        solids, joints, _ = solids_of(style_of(strong="g"), inlines_of("xa\\strong{ba}b xabab$x$aacaaa\\mark{m}c"))
        self.assertEqual(self.points(solids, joints), [2, 4, 7, 9, 13])


class ChunksTest(Case):

    def test_chunks(self):
        for joints, count, found in (
            ((), 0, []), ((), 1, [(0, 1)]), ((NONE,), 2, [(0, 2)]), ((GAP,), 2, [(0, 1), (1, 2)]), ((CUT,), 2, [(0, 1), (1, 2)]),
            ((TIE,), 2, [(0, 2)]), ((HYPH,), 2, [(0, 2)]),
            ((NONE, GAP, TIE, HYPH, CUT, NONE), 7, [(0, 2), (2, 5), (5, 7)]),
            ((("gap", "g"), ("tie", "g"), GAP, CUT), 5, [(0, 1), (1, 3), (3, 4), (4, 5)]),
        ):
            with self.subTest(joints):
                self.assertEqual(self.answer(chunks, joints, count), found)


class KindsTest(Case):

    def setUp(self):
        self.works = works_of(told_font("f", LETTERS), told_font("g", {**LETTERS, "a": 8}), patterns=("1c",))
        # Each letter of the font f is 2 wide, and so are the formula, the mark and the gap.
        self.plain_style = style_of(indent=0)

    def kinds(self, solids, joints, measure, style=None):
        found = self.answer(place_kinds, self.works, style or self.plain_style, measure, solids, joints)
        self.assertIs(type(found), tuple)
        return found

    def test_no_solids(self):
        self.assertEqual(self.kinds((), (), 100), (None,))
        self.assertEqual(self.kinds((), (), 1), (None,))

    def test_every_joint(self):
        for joint, wide, slim in ((GAP, 0, 0), (CUT, 3, 3), (HYPH, 1, 1), (NONE, 2, None), (TIE, 2, None), (("tie", "g"), 2, None),
                                  (("gap", "g"), 0, 0)):
            self.assertEqual(self.kinds(letters("ab"), (joint,), 1), (None, wide, 4))
            self.assertEqual(self.kinds(letters("ab"), (joint,), 100), (None, slim, 4))

    def test_the_end_alone(self):
        for solid in (("letter", "f", "a"), X, ("note", 1)):
            for measure in (1, 2, 100):
                self.assertEqual(self.kinds((solid,), (), measure), (None, 4))

    def test_word_points(self):
        self.assertEqual(self.kinds(letters("aacaaa"), (NONE,) * 5, 100), (None, None, 1, None, None, None, 4))
        self.assertEqual(self.kinds(letters("aacaaa"), (NONE,) * 5, 11), (None, 2, 1, 2, 2, 2, 4))
        self.assertEqual(self.kinds((*letters("aa"), *letters("caaa", "g")), (NONE,) * 5, 100),
                         (None, None, 1, None, None, None, 4))

    def test_a_hyphen_ahead_of_a_letter(self):
        for text, kind in (("a-b", 1), ("a-Z", 1), ("a--", None), ("a-1", None), ("a-.", None), ("--b", 1), ("1-b", 1), ("ab-", None),
                           ("a'b", None), ("a!b", None), ("a1b", None)):
            with self.subTest(text):
                self.assertEqual(self.kinds(letters(text), (NONE, NONE), 100), (None, None, kind, 4))
                self.assertEqual(self.kinds(letters(text), (NONE, NONE), 1), (None, 2, kind or 2, 4))
        for solid in (X, ("note", 1)):
            self.assertEqual(self.kinds((*letters("a-"), solid), (NONE, NONE), 100), (None, None, None, 4))
            self.assertEqual(self.kinds((*letters("a"), solid, *letters("b")), (NONE, NONE), 100), (None, None, None, 4))
        self.assertEqual(self.kinds((("letter", "g", "-"), ("letter", "f", "b")), (NONE,), 100), (None, 1, 4))
        self.assertEqual(self.kinds(letters("-b"), (TIE,), 100), (None, None, 4))
        self.assertEqual(self.kinds(letters("-b"), (GAP,), 100), (None, 0, 4))

    def test_too_wide_and_just_not(self):
        solids = letters("aaa") + letters("bb")
        for joint in (GAP, CUT):
            joints = (NONE, NONE, joint, NONE)
            kind = 0 if joint == GAP else 3
            for measure, kinds in (
                (100, (None, None, None, kind, None, 4)), (6, (None, None, None, kind, None, 4)), (5, (None, 2, 2, kind, None, 4)),
                (4, (None, 2, 2, kind, None, 4)), (3, (None, 2, 2, kind, 2, 4)), (1, (None, 2, 2, kind, 2, 4)),
            ):
                self.assertEqual(self.kinds(solids, joints, measure), kinds)
                self.assertEqual(self.kinds(solids, joints, measure + 7, style_of(indent=7)), kinds)

    def test_the_measure_is_the_one_that_is_passed(self):
        style = style_of(indent=3, measure=1000)
        self.assertEqual(self.kinds(letters("aaa"), (NONE, NONE), 9, style), (None, None, None, 4))
        self.assertEqual(self.kinds(letters("aaa"), (NONE, NONE), 8, style), (None, 2, 2, 4))

    def test_ties_do_not_end_a_chunk(self):
        # With the gap between them a and b are 6 wide.
        self.assertEqual(self.kinds(letters("ab"), (TIE,), 6), (None, None, 4))
        self.assertEqual(self.kinds(letters("ab"), (TIE,), 5), (None, 2, 4))
        self.assertEqual(self.kinds(letters("aabb"), (NONE, TIE, NONE), 10), (None, None, None, None, 4))
        self.assertEqual(self.kinds(letters("aabb"), (NONE, TIE, NONE), 9), (None, 2, 2, 2, 4))

    def test_a_chunk_between_others(self):
        solids = letters("aabbbbaa")
        joints = (NONE, GAP, NONE, NONE, NONE, GAP, NONE)
        self.assertEqual(self.kinds(solids, joints, 8), (None, None, 0, None, None, None, 0, None, 4))
        self.assertEqual(self.kinds(solids, joints, 7), (None, None, 0, 2, 2, 2, 0, None, 4))
        joints = (NONE, CUT, NONE, NONE, NONE, CUT, NONE)
        self.assertEqual(self.kinds(solids, joints, 7), (None, None, 3, 2, 2, 2, 3, None, 4))

    def test_the_glue_of_the_chunk(self):
        # Formulas, marks and other fonts count, a hyphen and a shrink do not.
        solids = (*letters("a"), X, ("note", 1), *letters("a", "g"))
        self.assertEqual(self.kinds(solids, (NONE,) * 3, 14), (None, None, None, None, 4))
        self.assertEqual(self.kinds(solids, (NONE,) * 3, 13), (None, 2, 2, 2, 4))
        self.assertEqual(self.kinds(letters("aac"), (NONE, HYPH), 6), (None, None, 1, 4))
        self.assertEqual(self.kinds(letters("aac"), (TIE, HYPH), 7), (None, 2, 1, 4))

    def test_kerns_and_joins_of_the_chunk(self):
        works = works_of(told_font("f", {"a": 4, "b": 4, "ab": 5}, kerns=(("b", "a", -2),), joins=(("a", "b", "ab"),)))
        style = style_of()
        for text, width in (("ba", 6), ("ab", 5), ("bab", 9)):
            joints = (NONE,) * (len(text) - 1)
            inner = (None,) * (len(text) - 1)
            self.assertEqual(place_kinds(works, style, width, letters(text), joints), (None, *inner, 4))
            self.assertEqual(place_kinds(works, style, width - 1, letters(text), joints), (None, *[2 for _ in inner], 4))

    def test_by_the_definition(self):
        dice = Dice(12)
        for _ in range(200):
            solids = tuple(dice.pick((("letter", "f", "a"), ("letter", "f", "-"), ("letter", "g", "b"), X, ("note", 3)))
                           for _ in range(dice.below(8) + 1))
            joints = tuple(HYPH if one[0] == two[0] == "letter" and dice.below(4) == 0 else dice.pick((NONE, NONE, GAP, TIE, CUT))
                           for one, two in zip(solids, solids[1:]))
            measure = dice.below(12) + 4
            kinds = self.kinds(solids, joints, measure, style_of(indent=3))
            parts = chunks(joints, len(solids))
            for k in range(1, len(solids)):
                around = [(low, high) for low, high in parts if low < k < high]
                joint = joints[k - 1][0]
                self.assertEqual(bool(around), joint not in ("gap", "cut"))
                letter = solids[k - 1][0] == solids[k][0] == "letter"
                if joint in ("gap", "cut", "hyph"):
                    self.assertEqual(kinds[k], {"gap": 0, "cut": 3, "hyph": 1}[joint])
                elif joint == "none" and letter and solids[k - 1][2] == "-" and solids[k][2] in "ab":
                    self.assertEqual(kinds[k], 1)
                else:
                    (low, high), = around
                    width = 2 * (high - low + [one[0] for one in joints[low:high - 1]].count("tie"))
                    self.assertEqual(kinds[k], 2 if width > measure - 3 else None)


if __name__ == "__main__":
    unittest.main()
