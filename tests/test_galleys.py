"""The galley: [56], with [51] and [55]."""

import unittest

from galleywork.devwrite import device_text
from galleywork.errors import BadEdit, BadText, NoSign, TooLong, TooTall, TooWide
from galleywork.galleys import Galley
from galleywork.kept import Kept
from galleywork.listing import show_pages
from galleywork.setting import fresh
from helper import Case, Dice, demo_sheet, fields_of, laid_open, rich_sheet
from texts import TextMaker, accepted_texts

DEMO = "\\head{ab} b\\mark{a}"


class GalleyCase(Case):

    def setUp(self):
        self.sheet = demo_sheet()

    def galley(self, text="", **named):
        return Galley(self.sheet, text, **named)

    def answers(self, galley):
        """All that a galley answers; spoiling the answers changes nothing."""
        for call in (galley.pages, galley.papers, galley.contents, galley.index_rows):
            self.assertIs(type(call()), list)
            call().append("spoilt")
        return (galley.text, galley.page_count, galley.pages(), galley.papers(), galley.contents(), galley.index_rows(), galley.device(),
                galley.work(), list(galley))

    def check(self, galley, text, sheet=None):
        """The galley has this text, and answers as a fresh setting of it does."""
        setting = fresh(sheet or self.sheet, text)
        self.assertEqual(self.answers(galley)[:7], (
            text, len(setting.page_boxes), list(setting.page_boxes), setting.records, setting.heads_told, setting.marks_told, device_text(setting.page_boxes)))
        self.assertEqual([page for page in galley], list(setting.page_boxes))
        self.assertEqual([type(number) for number in galley.work()], [int] * 4)
        self.assertIs(type(galley.work()), tuple)

    def bad(self, galley, error, call, *args, kept=None, **named):
        """The call raises the error, and changes nothing."""
        before, state = self.answers(galley), laid_open(galley.held())
        stand = kept.stand() if kept else None
        with self.assertRaises(type(error)) as caught:
            call(*args, **named)
        self.assertEqual(fields_of(caught.exception), fields_of(error))
        self.assertEqual(self.answers(galley), before)
        self.assertEqual(laid_open(galley.held()), state)
        if kept:
            self.assertEqual(kept.stand(), stand)


class ExampleTest(GalleyCase):

    def test_example(self):
        galley = self.galley(DEMO)
        self.assertEqual((galley.work(), galley.contents(), galley.index_rows()), ((4, 0, 0, 6), [(1, 1)], [("a", (1,))]))
        self.assertEqual(galley.edit(11, put="b"), (1, 0, 0, 0))
        self.assertEqual(show_pages(galley.pages()), "page    1\n     5     1  ab\n    12     3  bb\npage    2\n     5     1  1. ab 1\n    12     1  a 1")
        self.assertIs(galley.undo(), True)
        self.assertEqual(galley.work(), (0, 0, 0, 0))
        self.assertEqual(galley.edit(0, put="a\n\n"), (1, 0, 0, 1))
        self.assertIs(galley.redo(), False)
        self.check(galley, "a\n\n" + DEMO)

    def test_new_galleys(self):
        galley = Galley(self.sheet)
        self.check(galley, "")
        self.assertEqual((galley.page_count, galley.pages(), galley.device(), galley.work()), (0, [], "", (0, 0, 0, 2)))
        self.assertEqual(Galley.UNDO_LIMIT, 20)
        for text in ("", DEMO, "a b\n\nb", "\\display{a}\\float{3}{}"):
            self.check(self.galley(text), text)
            self.check(Galley(sheet=self.sheet, text=text), text)

    def test_refused_texts(self):
        for text, error in (("x", NoSign("x", 1)), ("{", BadText(1, 1, "open")), ("a" * 6001, TooLong("text")), ("$aaaaaaaa$", TooWide(1)), ("\\float{30}{}", TooTall(1))):
            self.refused(error, Galley, self.sheet, text)
            kept = Kept(self.sheet)
            kept.word("f", "b", "word")
            for _ in range(2):
                with self.assertRaises(type(error)) as caught:
                    Galley(self.sheet, "a b $a$\n\n" + text, kept=kept)
                self.assertIs(type(caught.exception), type(error))
                # What was kept while the galley could not be made is forgotten.
                self.assertEqual(kept.stand(), 1)


class EditTest(GalleyCase):

    def test_edits(self):
        galley = self.galley("ab a")
        for at, cut, put, text in (
            (0, 0, "", "ab a"), (0, 0, "b ", "b ab a"), (6, 0, " b", "b ab a b"), (2, 3, "", "b a b"), (0, 2, "", "a b"), (3, 0, "", "a b"), (1, 1, "\n\n", "a\n\nb"),
            (0, 4, "", ""), (0, 0, "", ""), (0, 0, "ab", "ab"), (1, 0, "a", "aab"), (0, 3, "b", "b"), (1, 0, "", "b"),
        ):
            self.assertEqual(galley.edit(at, cut=cut, put=put), galley.work())
            self.check(galley, text)

    def test_default_values(self):
        galley = self.galley("ab")
        galley.edit(1)
        self.assertEqual(galley.text, "ab")
        galley.edit(1, put="b")
        self.assertEqual(galley.text, "abb")
        galley.edit(1, cut=2)
        self.assertEqual(galley.text, "a")

    def test_bad_edits(self):
        galley = self.galley("aab")
        for at, cut, what in ((-1, 0, "at"), (4, 0, "at"), (-1, -1, "at"), (4, 9, "at"), (10 ** 9, 0, "at"), (0, -1, "cut"), (0, 4, "cut"), (3, 1, "cut"), (2, 2, "cut"), (1, 3, "cut"), (3, -1, "cut")):
            # The refusal comes ahead of what the new text would raise.
            for put in ("", "x", "{"):
                self.bad(galley, BadEdit(what), galley.edit, at, cut=cut, put=put)
        for at, cut in ((0, 3), (3, 0), (1, 2), (2, 1)):
            galley.edit(at, cut=cut)
            galley.undo()
            self.check(galley, "aab")

    def test_refused_edits(self):
        kept = Kept(self.sheet)
        galley = self.galley(DEMO, kept=kept)
        galley.edit(0, put="a\n\n")
        galley.undo()
        for put, error in (("b b $a$\n\nx ", NoSign("x", 2)), ("\\foo", BadText(1, 1, "undefined")), ("a" * 6001, TooLong("text")), ("b\\note{$aaaaaaa$}", TooWide(1)),
                           ("b\n\n\\float{30}{ab}", TooTall(2)), ("b\\mark{ax}", NoSign("x", 1))):
            for _ in range(2):
                self.bad(galley, error, galley.edit, 0, put=put, kept=kept)
                self.bad(galley, error, galley.put_text, put, kept=kept)
        # The stacks are as before.
        self.assertIs(galley.redo(), True)
        self.check(galley, "a\n\n" + DEMO)
        self.assertEqual(galley.work(), (0, 0, 0, 1))

    def test_put_text(self):
        galley = self.galley(DEMO)
        # Only the entries of the two ends hold: the line behind the head has another cost.
        self.assertEqual(galley.put_text("a b"), (1, 0, 0, 1))
        self.check(galley, "a b")
        self.assertEqual(galley.put_text("a b"), (0, 0, 0, 0))
        self.assertEqual([galley.undo(), galley.text, galley.undo(), galley.text, galley.undo()], [True, "a b", True, DEMO, False])

    def test_work(self):
        galley = self.galley("$a$ b\\note{$b$ $a$}\\display{a}\\table{9 9}{a & }\\float{3}{}")
        # A par, a note, two cells and a caption; one formula twice and another one.
        self.assertEqual(galley.work()[:3], (5, 1, 2))
        self.assertEqual(galley.edit(0, put="a "), (1, 0, 0, 0))
        self.assertEqual(galley.edit(0, cut=2), (0, 0, 0, 0))
        self.assertEqual(galley.edit(0, put="$b$ $bb$ $bb$ ")[:3], (1, 0, 1))


class UndoTest(GalleyCase):

    def test_no_text_to_take(self):
        galley = self.galley(DEMO)
        before = self.answers(galley)
        for call in (galley.undo, galley.redo, galley.undo):
            self.assertIs(call(), False)
            self.assertEqual(self.answers(galley), before)

    def test_undo_and_redo(self):
        galley = self.galley("a")
        texts = ["a", "a b", "b", "ab b\n\na", ""]
        for text in texts[1:]:
            galley.put_text(text)
        for text in texts[-2::-1]:
            self.assertIs(galley.undo(), True)
            self.check(galley, text)
        self.assertIs(galley.undo(), False)
        for text in texts[1:]:
            self.assertIs(galley.redo(), True)
            self.check(galley, text)
        self.assertIs(galley.redo(), False)
        self.check(galley, "")

    def test_an_edit_empties_the_redo_stack(self):
        galley = self.galley("a")
        galley.put_text("b")
        galley.put_text("ab")
        galley.undo()
        galley.undo()
        galley.edit(1, put="")
        self.assertIs(galley.redo(), False)
        self.assertEqual((galley.undo(), galley.text, galley.undo()), (True, "a", False))
        self.assertEqual((galley.redo(), galley.text, galley.redo()), (True, "a", False))

    def test_refused_edits_keep_the_stacks(self):
        galley = self.galley("a")
        galley.put_text("b")
        galley.put_text("ab")
        galley.undo()
        for _ in range(3):
            self.bad(galley, NoSign("x", 1), galley.put_text, "x")
            self.bad(galley, BadEdit("at"), galley.edit, 99)
        self.assertEqual((galley.redo(), galley.text), (True, "ab"))
        self.assertEqual((galley.undo(), galley.undo(), galley.text, galley.undo()), (True, True, "a", False))

    def test_more_than_twenty_edits(self):
        galley = self.galley("a")
        texts = ["a"]
        for k in range(25):
            text = "b" * (k + 1)
            galley.put_text(text if k % 3 else text + " a")
            texts.append(galley.text)
            if k % 4 == 0:
                self.bad(galley, NoSign("x", 1), galley.put_text, "x")
        found = []
        while galley.undo():
            found.append(galley.text)
        self.assertEqual(found, texts[24:4:-1])
        self.assertEqual(len(found), 20)
        found = []
        while galley.redo():
            found.append(galley.text)
        self.assertEqual(found, texts[6:])

    def test_twenty_texts_on_both_stacks(self):
        galley = self.galley("0")
        dice = Dice(56)
        undo, redo, now = [], [], "0"
        for k in range(200):
            kind = dice.below(8)
            if kind < 4:
                galley.put_text(str(k))
                undo, redo, now = (undo + [now])[-20:], [], str(k)
            elif kind == 4:
                self.bad(galley, NoSign("x", 1), galley.edit, 0, put="x")
            elif kind < 7:
                self.assertEqual(galley.undo(), bool(undo))
                if undo:
                    redo.append(now)
                    now = undo.pop()
            else:
                self.assertEqual(galley.redo(), bool(redo))
                if redo:
                    undo.append(now)
                    now = redo.pop()
            self.assertEqual(galley.text, now)
            self.assertLessEqual(len(undo) + len(redo), 20)
        steps = 0
        while galley.undo():
            steps += 1
        self.assertEqual(steps, len(undo))

    def test_work_after_undo_and_redo(self):
        galley = self.galley("a\n\nb\n\na")
        self.assertEqual(galley.work(), (2, 0, 0, 5))
        galley.put_text("a\n\nb\n\n\\quote{ab ab ab}")
        # The quote has two lines, of which the last costs more.
        self.assertEqual(galley.work(), (1, 0, 0, 4))
        galley.undo()
        self.assertEqual(galley.work(), (0, 0, 0, 3))
        galley.redo()
        self.assertEqual(galley.work(), (0, 0, 0, 4))
        galley.redo()
        self.assertEqual(galley.work(), (0, 0, 0, 4))


class HoldTest(GalleyCase):

    def test_held_states(self):
        galley = self.galley("a")
        galley.put_text("b")
        galley.put_text("ab")
        galley.undo()
        state = galley.held()
        self.assertIs(type(state), tuple)
        opened, answers = laid_open(state), self.answers(galley)
        for _ in range(2):
            galley.put_text("a b\n\n\\head{a}")
            galley.undo()
            galley.undo()
            galley.put_text("bb")
            galley.redo()
            self.bad(galley, NoSign("x", 1), galley.put_text, "x")
            self.assertEqual(laid_open(state), opened)
            self.assertIsNone(galley.hold(state))
            self.assertEqual(self.answers(galley), answers)
            self.assertEqual(laid_open(galley.held()), opened)
        self.assertEqual((galley.redo(), galley.text), (True, "ab"))
        galley.hold(state)
        self.assertEqual((galley.undo(), galley.text, galley.undo()), (True, "a", False))
        galley.hold(state)
        self.check(galley, "b")

    def test_several_states(self):
        galley = self.galley("")
        states = [(galley.held(), self.answers(galley))]
        for text in ("a", "a b", DEMO, "b"):
            galley.put_text(text)
            states.append((galley.held(), self.answers(galley)))
        for state, answers in states[::-1] + states:
            galley.hold(state)
            self.assertEqual(self.answers(galley), answers)

    def test_the_kept_is_not_held(self):
        galley = self.galley("a")
        state = galley.held()
        self.assertEqual(galley.put_text("b b\n\na"), (1, 0, 0, 1))
        galley.hold(state)
        # What was kept since then is found again, but the states are worked with the former Tails.
        self.assertEqual(galley.put_text("b b\n\na"), (0, 0, 0, 1))

    def test_the_tails_are_held(self):
        galley = self.galley("a\n\nb")
        state = galley.held()
        galley.put_text("\\display{a}\\table{9}{a\\\\b\\\\a\\\\b}")
        galley.hold(state)
        self.assertEqual(galley.put_text("b\n\na\n\nb")[3], 1)


class SharedTest(GalleyCase):

    def test_galleys_that_share_a_kept(self):
        kept = Kept(self.sheet)
        one = self.galley("a b\n\n$a$", kept=kept)
        self.assertEqual(one.work(), (2, 0, 1, 4))
        two = self.galley("a b\n\n$b$", kept=kept)
        self.assertEqual(two.work(), (1, 0, 1, 4))
        three = self.galley("a b\n\n$a$", kept=kept)
        self.assertEqual(three.work(), (0, 0, 0, 4))
        # What others keep later does not count.
        two.put_text("bb")
        self.assertEqual((one.work(), two.work(), three.work()), ((2, 0, 1, 4), (1, 0, 0, 0), (0, 0, 0, 4)))
        one.put_text("bb")
        self.assertEqual(one.work()[:3], (0, 0, 0))
        stand = kept.stand()
        self.bad(one, NoSign("x", 2), one.put_text, "$ab$ ba ab\n\nx", kept=kept)
        self.assertEqual(kept.stand(), stand)
        self.assertEqual(two.put_text("$ab$ ba ab")[:3], (1, 0, 1))
        for galley, text in ((one, "bb"), (two, "$ab$ ba ab"), (three, "a b\n\n$a$")):
            self.check(galley, text)

    def test_a_kept_of_its_own(self):
        one, two = self.galley("a b"), self.galley("a b")
        self.assertEqual((one.work(), two.work()), ((1, 0, 0, 3), (1, 0, 0, 3)))


class RandomTest(GalleyCase):

    def test_random_edits(self):
        sheet = rich_sheet()
        for seed in range(4):
            maker = TextMaker(560 + seed)
            dice = maker.dice
            kept = Kept(sheet)
            galleys = [Galley(sheet, text, kept=kept) for text, _ in accepted_texts(sheet, 570 + seed, 2, 6)]
            for _ in range(40):
                galley = dice.pick(galleys)
                before, stand = self.answers(galley), kept.stand()
                kind = dice.below(7)
                try:
                    if kind < 4:
                        at = dice.below(len(galley.text) + 1)
                        cut = dice.below(min(6, len(galley.text) - at + 1)) if dice.below(2) else 0
                        galley.edit(at, cut=cut, put=dice.pick(("", "a", " ", "\n\n", "{", "\\", "\\note{one}", "$x$", "\\newpage ", "\\mark{new}", "\\head{abba}")))
                    elif kind == 4:
                        galley.put_text(maker.text(1 + dice.below(5)))
                    elif kind == 5:
                        galley.undo()
                    else:
                        galley.redo()
                except (BadText, NoSign, TooWide, TooTall, TooLong):
                    self.assertEqual((self.answers(galley), kept.stand()), (before, stand))
                self.check(galley, galley.text, sheet)


if __name__ == "__main__":
    unittest.main()
