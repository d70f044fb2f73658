"""Kept pieces: [51], with [12] and [38]."""

import unittest

from galleywork.errors import GalleyError, NoSign, TooWide
from galleywork.formread import read_formula
from galleywork.kept import Kept
from galleywork.solids import solids_of
from galleywork.tokens import tokenize
from galleywork.works import Works
from helper import Case, blocks_of, demo_sheet, fields_of, inlines_of, laid_open, rich_sheet, row_of
from texts import FORMULAS, TextMaker


def formula_of(text):
    tokens = tokenize(text)
    return read_formula(tokens, 0, len(tokens))


class KeptCase(Case):

    def setUp(self):
        self.sheet = rich_sheet()
        self.kept = Kept(self.sheet)
        self.works = Works(self.sheet)

    def par(self, text, *, style="par", measure=56, block=1, kept=None):
        """Asks for the paragraph of a text, and returns it."""
        solids, joints, _ = solids_of(self.sheet.style_of(style), inlines_of(text) if text else ())
        found = (kept or self.kept).paragraph(style, measure, solids, joints, block)
        self.assertEqual(laid_open(found), laid_open(self.works.paragraph(style, measure, solids, joints, block)))
        return found

    def new(self, call, *args, **named):
        """How many things a call keeps, and the work of the call."""
        stand = self.kept.stand()
        call(*args, **named)
        return (self.kept.stand() - stand,) + self.kept.worked_since(stand)


class AnswerTest(KeptCase):

    def test_fields(self):
        self.assertIsInstance(self.kept, Works)
        self.assertIs(self.kept.sheet, self.sheet)
        self.assertIs(self.kept.book, self.sheet.book)

    def test_words_marks_and_formulas(self):
        for font in ("f", "s", "n"):
            for letters in ("office", "a", "at-", "", "abba"):
                for kind in ("word", "parted"):
                    for _ in range(2):
                        self.assertEqual(self.kept.word(font, letters, kind), self.works.word(font, letters, kind))
        for n in (1, 2, 10, 750, 1):
            self.assertEqual(self.kept.mark(n), self.works.mark(n))
        for text in FORMULAS + FORMULAS:
            self.assertEqual(self.kept.formula(formula_of(text)), self.works.formula(formula_of(text)))

    def test_paragraphs_and_displays(self):
        maker = TextMaker(51)
        texts = [maker.words(True).replace("\\label", "\\mark").replace("\\ref", "\\mark") for _ in range(40)]
        for text in texts + texts[::-1]:
            for style, measure in (("par", 56), ("par", 30), ("quote", 40)):
                one = self.par(text, style=style, measure=measure)
                two = self.par(text, style=style, measure=measure)
                self.assertEqual(laid_open(one), laid_open(two))
        for text in ("a=b", "a+b=c-d", "a=b", "x"):
            row = formula_of(text)
            self.assertEqual(laid_open(self.kept.display(row, 3)), laid_open(self.works.display(row, 3)))

    def test_errors(self):
        kept, works = Kept(demo_sheet()), Works(demo_sheet())
        style = kept.sheet.style_of("par")
        for text in ("x", "a x", "a$x$", "$aaaaaaaa$", "a$aaaaaaaa$x"):
            solids, joints, _ = solids_of(style, inlines_of(text))
            for block in (1, 2, 1):
                for one in (kept, works):
                    with self.assertRaises(GalleyError) as caught:
                        one.paragraph("par", 18, solids, joints, block)
                    error = fields_of(caught.exception)
                    self.assertEqual(error, ("NoSign", "x", block) if "x" in text else ("TooWide", block))
        for text, error in (("x", NoSign), ("aaaaaaa", TooWide), ("aaaaaaax", NoSign)):
            for block in (1, 2, 1):
                for one in (kept, works):
                    args = ("x", block) if error is NoSign else (block,)
                    with self.assertRaises(error) as caught:
                        one.display(row_of(text), block)
                    self.assertEqual(fields_of(caught.exception)[1:], args)

    def test_an_error_is_no_answer_that_is_kept(self):
        kept = Kept(demo_sheet())
        with self.assertRaises(NoSign):
            kept.display(row_of("ax"), 1)
        stand = kept.stand()
        self.assertEqual(kept.worked_since(0)[:2], (0, 0))
        kept.display(row_of("a"), 1)
        self.assertEqual(kept.worked_since(stand), (0, 1, 0))


class StandTest(KeptCase):

    def test_at_first(self):
        self.assertEqual(self.kept.stand(), 0)
        self.assertEqual(self.kept.worked_since(0), (0, 0, 0))
        self.assertIsNone(self.kept.back_to(0))
        self.assertEqual(self.kept.stand(), 0)

    def test_single_things(self):
        for call, args, work in (
            (self.kept.word, ("f", "ab", "word"), (0, 0, 0)), (self.kept.mark, (3,), (0, 0, 0)), (self.kept.formula, (formula_of("x^2"),), (0, 0, 1)),
            (self.kept.display, (formula_of("a=b"), 4), (0, 1, 0)), (self.kept.paragraph, ("par", 56, (), (), 1), (1, 0, 0)),
        ):
            self.assertEqual(self.new(call, *args), (1,) + work)
            self.assertEqual(self.new(call, *args), (0, 0, 0, 0))

    def test_keys_of_words(self):
        keys = [(font, letters, kind) for font in ("f", "s") for letters in ("ab", "a", "ab-") for kind in ("word", "parted")]
        self.assertEqual([self.new(self.kept.word, *key)[0] for key in keys + keys], [1] * 12 + [0] * 12)

    def test_keys_of_marks(self):
        self.assertEqual([self.new(self.kept.mark, n)[0] for n in (1, 2, 12, 1, 12)], [1, 1, 1, 0, 0])

    def test_keys_of_formulas_and_displays(self):
        # The written form leaves out blanks, and puts upper parts first.
        for call, end in ((self.kept.formula, ()), (self.kept.display, (1,))):
            for text, new in (("x_1^2", 1), ("x^2_1", 0), ("x ^2 _1", 0), ("{x}^2_1", 1), ("x^{2}_1", 1), ("\\over{a}{b}", 1), ("\\over{ a }{b}", 0), ("", 1)):
                if text or not end:
                    self.assertEqual(self.new(call, formula_of(text), *end)[0], new)

    def test_formulas_and_displays_are_kept_apart(self):
        row = formula_of("a=b")
        self.assertEqual(self.new(self.kept.formula, row), (1, 0, 0, 1))
        self.assertEqual(self.new(self.kept.display, row, 1), (1, 0, 1, 0))
        self.assertEqual(self.kept.formula(row), self.works.formula(row))
        self.assertEqual(laid_open(self.kept.display(row, 1)), laid_open(self.works.display(row, 1)))
        other = formula_of("x=y")
        self.assertEqual(self.new(self.kept.display, other, 1), (1, 0, 1, 0))
        self.assertEqual(self.new(self.kept.formula, other), (1, 0, 0, 1))

    def test_the_five_sorts_are_kept_apart(self):
        row = formula_of("12")
        self.assertEqual(self.new(self.kept.mark, 12)[0], 1)
        self.assertEqual(self.new(self.kept.formula, row)[0], 1)
        self.assertEqual(self.new(self.kept.display, row, 1)[0], 1)
        self.assertEqual(self.new(self.kept.word, "f", "12", "word")[0], 1)

    def test_the_block_is_part_of_no_key(self):
        self.par("an office $x$", block=1)
        self.assertEqual(self.new(self.par, "an office $x$", block=9), (0, 0, 0, 0))
        self.kept.display(formula_of("x"), 1)
        self.assertEqual(self.new(self.kept.display, formula_of("x"), 2), (0, 0, 0, 0))

    def test_keys_of_paragraphs(self):
        self.par("an $x_1^2$ office", measure=50)
        letters = [("letter", "f", char) for char in "anoffice"]
        # The style, the measure, the joints, and the solids: each by itself.
        for text, changes, new in (
            ("an $x_1^2$ office", {"measure": 50}, 0), ("an $x^2_1$ office", {"measure": 50}, 0), ("an $x^2_1$ office", {"measure": 51}, 1),
            ("an $x_1^2$ office", {"measure": 50, "style": "quote"}, 1), ("an~$x_1^2$ office", {"measure": 50}, 1), ("an $x_1^2$office", {"measure": 50}, 1),
            ("an $x_1^2$ offic", {"measure": 50}, 1), ("an $x_1^3$ office", {"measure": 50}, 1), ("an x office", {"measure": 50}, 1),
            ("\\strong{an} $x_1^2$ office", {"measure": 50}, 1), ("an \\strong{ }$x_1^2$ office", {"measure": 50}, 0), ("an\\strong{ }$x_1^2$ office", {"measure": 50}, 1),
            ("a\\mark{b}n $x_1^2$ office", {"measure": 50}, 0), ("an $x_1^2$ off\\-ice", {"measure": 50}, 1),
        ):
            with self.subTest((text, changes)):
                self.assertEqual(self.new(self.par, text, **changes)[1], new)
        self.assertEqual(len(letters), 8)

    def test_notes_in_keys_of_paragraphs(self):
        style = self.sheet.style_of("par")
        for n, new in ((1, 1), (2, 1), (1, 0)):
            solids, joints, _ = solids_of(style, (("word", "a"), ("note", n, (("word", "b"),))))
            self.assertEqual(self.new(self.kept.paragraph, "par", 56, solids, joints, 1)[1], new)
        # The inlines of the note make no difference.
        solids, joints, _ = solids_of(style, (("word", "a"), ("note", 1, (("word", "c"),))))
        self.assertEqual(self.new(self.kept.paragraph, "par", 56, solids, joints, 1), (0, 0, 0, 0))

    def test_a_formula_is_no_word_and_no_note(self):
        for solids in ((("formula", formula_of("a")),), (("letter", "f", "a"),), (("note", 1),), (("formula", formula_of("1")),), (("letter", "f", "1"),)):
            self.assertEqual(self.new(self.kept.paragraph, "par", 56, solids, (), 1)[1], 1)
            self.assertEqual(self.new(self.kept.paragraph, "par", 56, solids, (), 1)[1], 0)

    def test_the_work_of_paragraphs(self):
        for text, work in (
            ("", (1, 0, 0)), ("a b", (1, 0, 0)), ("$x$", (1, 0, 1)), ("$x$ a", (1, 0, 0)), ("$y$ $y$ $ y $ $x$", (1, 0, 1)), ("$x_1^2$$x^2_1$\\strong{$z$}", (1, 0, 2)),
            ("a $x$", (1, 0, 0)), ("a $x$", (0, 0, 0)),
        ):
            self.assertEqual(self.new(self.par, text)[1:], work)

    def test_what_a_paragraph_keeps(self):
        solids, joints, _ = solids_of(self.sheet.style_of("par"), (
            ("word", "banana"), ("gap",), ("word", "banana"), ("gap",), ("word", "banana"), ("gap",), ("formula", formula_of("x^2")), ("note", 7, ()), ("gap",),
            ("strong", (("word", "abba"),))))
        found = self.kept.paragraph("par", 22, solids, joints, 1)
        boxes = [part for line in found.boxes for _, _, part in line[4]]
        words = [("".join(leaf[4][2] for _, _, leaf in box[4]), box[4][0][2][4][0], box[0]) for box in boxes if box[0] in ("word", "parted")]
        self.assertIn("parted", [kind for _, _, kind in words])
        self.assertGreater(len(found.boxes), 2)
        for letters, font, kind in words:
            self.assertEqual(self.new(self.kept.word, font, letters, kind), (0, 0, 0, 0))
        self.assertEqual(self.new(self.kept.formula, formula_of("x^2")), (0, 0, 0, 0))
        self.assertEqual(self.new(self.kept.mark, 7), (0, 0, 0, 0))
        self.assertEqual(self.new(self.kept.mark, 8), (1, 0, 0, 0))

    def test_what_is_kept_already_does_not_count_for_a_paragraph(self):
        self.kept.formula(formula_of("x"))
        self.kept.mark(1)
        self.assertEqual(self.new(self.par, "$x$\\note{a} $y$")[1:], (1, 0, 1))

    def test_a_display_keeps_no_formulas(self):
        self.assertEqual(self.new(self.kept.display, formula_of("\\over{a}{b}=c"), 1), (1, 0, 1, 0))
        self.assertEqual(self.new(self.kept.formula, formula_of("c")), (1, 0, 0, 1))

    def test_the_work_since_earlier_stands(self):
        stands = []
        for call in (lambda: self.par("a $x$"), lambda: self.kept.display(formula_of("x"), 1), lambda: self.kept.formula(formula_of("y")),
                     lambda: self.par("b $y$ $z$"), lambda: self.kept.mark(70)):
            stands.append(self.kept.stand())
            call()
        self.assertEqual([self.kept.worked_since(stand) for stand in stands], [(2, 1, 3), (1, 1, 2), (1, 0, 2), (1, 0, 1), (0, 0, 0)])
        self.assertEqual(self.kept.worked_since(self.kept.stand()), (0, 0, 0))


class BackTest(KeptCase):

    def test_going_back(self):
        self.par("an office $x$")
        stand = self.kept.stand()
        self.par("a table $x$ $y$\\note{b}")
        self.kept.display(formula_of("a=b"), 1)
        later = self.kept.stand()
        self.assertGreater(later, stand)
        self.assertIsNone(self.kept.back_to(stand))
        self.assertEqual(self.kept.stand(), stand)
        self.assertEqual(self.kept.worked_since(stand), (0, 0, 0))
        # What was kept before is found again, the rest is made anew.
        self.assertEqual(self.new(self.par, "an office $x$"), (0, 0, 0, 0))
        self.assertEqual(self.new(self.par, "a table $x$ $y$\\note{b}")[1:], (1, 0, 1))
        self.assertEqual(self.new(self.kept.display, formula_of("a=b"), 1)[1:], (0, 1, 0))
        self.assertEqual(self.kept.stand(), later)

    def test_going_back_to_the_same_stand(self):
        self.par("a")
        stand = self.kept.stand()
        self.kept.back_to(stand)
        self.assertEqual(self.kept.stand(), stand)
        self.assertEqual(self.new(self.par, "a"), (0, 0, 0, 0))

    def test_each_sort(self):
        for call, args, work in (
            (self.kept.word, ("f", "ab", "word"), (0, 0, 0)), (self.kept.mark, (3,), (0, 0, 0)), (self.kept.formula, (formula_of("x"),), (0, 0, 1)),
            (self.kept.display, (formula_of("x"), 4), (0, 1, 0)), (self.kept.paragraph, ("par", 56, (), (), 1), (1, 0, 0)),
        ):
            for _ in range(3):
                self.assertEqual(self.new(call, *args), (1,) + work)
                self.assertEqual(self.kept.worked_since(0), work)
                self.kept.back_to(0)

    def test_after_an_error(self):
        kept = Kept(demo_sheet())
        style = kept.sheet.style_of("par")
        good, joints, _ = solids_of(style, inlines_of("ab $a$"))
        kept.paragraph("par", 18, good, joints, 1)
        stand = kept.stand()
        for text, error in (("a$b$ $bbbbbbb$ $a$", TooWide), ("$b$ x", NoSign)):
            bad, bad_joints, _ = solids_of(style, inlines_of(text))
            for _ in range(3):
                with self.assertRaises(error):
                    kept.paragraph("par", 18, bad, bad_joints, 1)
                self.assertEqual(kept.worked_since(stand)[:2], (0, 0))
            kept.back_to(stand)
            self.assertEqual((kept.stand(), kept.worked_since(stand)), (stand, (0, 0, 0)))
            kept.paragraph("par", 18, good, joints, 1)
            self.assertEqual(kept.stand(), stand)
        kept.formula(formula_of("b"))
        self.assertEqual(kept.worked_since(stand), (0, 0, 1))

    def test_several_kepts_share_nothing(self):
        other = Kept(self.sheet)
        self.par("a $x$")
        self.assertEqual(other.stand(), 0)
        other.formula(formula_of("x"))
        self.assertEqual(other.worked_since(0), (0, 0, 1))

    def test_random_calls(self):
        maker = TextMaker(52)
        dice = maker.dice
        kept = self.kept
        stands = [0]
        for _ in range(150):
            kind = dice.below(6)
            if kind == 0 and len(stands) > 1:
                stand = dice.pick(stands)
                kept.back_to(stand)
                self.assertEqual(kept.stand(), stand)
                stands = [one for one in stands if one <= stand]
            elif kind == 1:
                row = formula_of(dice.pick(FORMULAS))
                self.assertEqual(kept.formula(row), self.works.formula(row))
            elif kind == 2:
                row = formula_of(dice.pick(FORMULAS))
                self.assertEqual(laid_open(kept.display(row, 1)), laid_open(self.works.display(row, 1)))
            else:
                block = blocks_of(dice.pick(("an office", "a $x$", "b \\strong{c}", "tables end\\note{d}", "$\\over{a}{b}$ one")))[0]
                solids, joints, _ = solids_of(self.sheet.style_of("par"), block[1])
                measure = dice.pick((30, 56))
                self.assertEqual(laid_open(kept.paragraph("par", measure, solids, joints, 1)),
                                 laid_open(self.works.paragraph("par", measure, solids, joints, 1)))
            stands.append(kept.stand())
            self.assertEqual(stands, sorted(stands))


if __name__ == "__main__":
    unittest.main()
