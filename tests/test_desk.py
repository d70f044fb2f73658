"""The desk and batches: [57] and [58]."""

import copy
import unittest

from galleywork.desk import Desk
from galleywork.devwrite import device_text
from galleywork.errors import BadDeed, BadEdit, BadText, GalleyError, NoSign, NoText, TooLong, TooTall, TooWide
from galleywork.galleys import Galley
from galleywork.setting import fresh
from helper import Case, demo_sheet, fields_of, laid_open, rich_sheet
from texts import TextMaker

DEMO = "\\head{ab} b\\mark{a}"


def galley_answers(galley):
    return (galley.text, galley.page_count, galley.pages(), galley.papers(), galley.contents(), galley.index_rows(), galley.device(), galley.work())


class DeskCase(Case):

    def setUp(self):
        self.sheet = demo_sheet()
        self.desk = Desk(self.sheet)

    def state(self, desk):
        """All that a desk and its galleys answer, and what is inside their states."""
        names = desk.names()
        self.assertIs(type(names), list)
        return [(name, id(desk.galley(name)), galley_answers(desk.galley(name)), laid_open(desk.galley(name).held())) for name in names]

    def bad(self, error, call, *args, desk=None, **named):
        """The call raises the error, twice, and changes nothing."""
        desk = desk or self.desk
        passed = copy.deepcopy((args, named))
        before = self.state(desk)
        for _ in range(2):
            with self.assertRaises(GalleyError) as caught:
                call(*args, **named)
            self.assertEqual(fields_of(caught.exception), fields_of(error))
            self.assertEqual(self.state(desk), before)
        self.assertEqual((args, named), passed)

    def check(self, desk, name, text, sheet=None):
        """The galley of a name has a text, and answers as a fresh setting of it does."""
        setting = fresh(sheet or self.sheet, text)
        self.assertEqual(galley_answers(desk.galley(name))[:7], (
            text, len(setting.page_boxes), list(setting.page_boxes), setting.records, setting.heads_told, setting.marks_told, device_text(setting.page_boxes)))


class CallTest(DeskCase):

    def test_a_new_desk(self):
        self.assertEqual(self.answer(self.desk.names), [])

    def test_put(self):
        self.assertEqual(self.desk.put("x", DEMO), (4, 0, 0, 6))
        self.assertEqual(self.desk.galley("x").work(), (4, 0, 0, 6))
        self.check(self.desk, "x", DEMO)
        # As an edit of the whole text, with what is kept.
        self.assertEqual(self.desk.put("x", "a b"), (1, 0, 0, 1))
        self.assertIs(self.desk.undo("x"), True)
        self.check(self.desk, "x", DEMO)
        # Another galley shares what is kept, but not the Tails.
        self.assertEqual(self.desk.put("y", DEMO), (0, 0, 0, 6))

    def test_names(self):
        for name in ("b", "", "a b", "B", "\n", "aa", "10", "9", "a"):
            self.desk.put(name, "a")
        self.assertEqual(self.answer(self.desk.names), ["", "\n", "10", "9", "B", "a", "a b", "aa", "b"])
        self.check(self.desk, "", "a")

    def test_edit(self):
        self.desk.put("x", DEMO)
        self.assertEqual(self.desk.edit("x", 11, put="b"), (1, 0, 0, 0))
        self.assertEqual(self.desk.edit("x", 0, cut=9, put="a"), self.desk.galley("x").work())
        self.check(self.desk, "x", "a bb\\mark{a}")
        self.assertEqual(self.desk.edit("x", 2), (0, 0, 0, 0))

    def test_undo_and_redo(self):
        self.desk.put("x", "a")
        self.assertIs(self.desk.undo("x"), False)
        self.assertIs(self.desk.redo("x"), False)
        self.desk.put("x", "b")
        self.assertIs(self.desk.undo("x"), True)
        self.check(self.desk, "x", "a")
        self.assertIs(self.desk.redo("x"), True)
        self.check(self.desk, "x", "b")
        self.assertIs(self.desk.redo("x"), False)

    def test_drop(self):
        self.desk.put("x", DEMO)
        self.desk.put("y", "b")
        galley = self.desk.galley("x")
        galley.edit(11, put="a")
        self.assertEqual(self.desk.drop("x"), DEMO[:11] + "a" + DEMO[11:])
        self.assertEqual(self.desk.names(), ["y"])
        self.bad(NoText("x"), self.desk.drop, "x")
        # The galley goes on, with the same Kept.
        self.assertIs(galley.undo(), True)
        self.assertEqual(galley.put_text("b"), (0, 0, 0, galley.work()[3]))
        self.assertEqual(self.desk.names(), ["y"])
        self.assertEqual(galley.put_text("ab ab"), (1, 0, 0, 0))
        self.assertEqual(self.desk.put("z", "ab ab"), (0, 0, 0, 3))

    def test_a_dropped_name_can_be_put_again(self):
        self.desk.put("x", "a")
        self.desk.put("x", "b")
        old = self.desk.galley("x")
        self.assertEqual(self.desk.drop("x"), "b")
        # What is kept stays.
        self.assertEqual(self.desk.put("x", "a"), (0, 0, 0, 3))
        self.assertIsNot(self.desk.galley("x"), old)
        self.assertEqual((self.desk.undo("x"), self.desk.redo("x")), (False, False))
        self.assertEqual((old.text, old.undo(), old.text), ("b", True, "a"))
        self.check(self.desk, "x", "a")

    def test_the_galley_itself(self):
        self.desk.put("x", "a")
        galley = self.desk.galley("x")
        self.assertIsInstance(galley, Galley)
        self.assertIs(self.desk.galley("x"), galley)
        galley.put_text("b")
        self.check(self.desk, "x", "b")
        self.assertIs(self.desk.undo("x"), True)
        self.assertEqual(galley.text, "a")
        self.desk.put("x", "ab")
        self.assertIs(self.desk.galley("x"), galley)
        self.assertEqual(galley.text, "ab")

    def test_names_that_are_not_there(self):
        for name in ("x", "", "Y"):
            for call, args in ((self.desk.edit, (0,)), (self.desk.undo, ()), (self.desk.redo, ()), (self.desk.drop, ()), (self.desk.galley, ())):
                self.bad(NoText(name), call, name, *args)
        self.desk.put("y", "a")
        self.bad(NoText("Y"), self.desk.undo, "Y")
        # Before any other error.
        self.bad(NoText("x"), self.desk.edit, "x", -1, cut=99, put="{")

    def test_refused_texts(self):
        for text, error in (("x", NoSign("x", 1)), ("{", BadText(1, 1, "open")), ("a" * 6001, TooLong("text")), ("$aaaaaaaa$", TooWide(1)), ("\\float{30}{}", TooTall(1))):
            self.bad(error, self.desk.put, "new", text)
            self.desk.put("old", "b")
            self.bad(error, self.desk.put, "old", text)
            self.bad(error, self.desk.edit, "old", 0, cut=1, put=text)
            self.bad(BadEdit("at"), self.desk.edit, "old", 2, put=text)
            self.bad(BadEdit("cut"), self.desk.edit, "old", 1, cut=1, put=text)
            self.assertEqual(self.desk.names(), ["old"])

    def test_what_was_kept_for_a_refused_text_is_forgotten(self):
        self.bad(NoSign("x", 2), self.desk.put, "new", "ab ab $a$\n\nx")
        self.assertEqual(self.desk.put("new", "ab ab $a$")[:3], (1, 0, 1))


class BatchTest(DeskCase):

    def test_example(self):
        self.assertEqual(self.desk.batch([("put", "x", "ab"), ("undo", "x"), ("drop", "x")]), [(1, 0, 0, 3), False, "ab"])
        self.assertEqual(self.desk.names(), [])
        other = Desk(self.sheet)
        self.bad(NoText("y"), other.batch, [("put", "x", "ab"), ("undo", "y")], desk=other)
        self.assertEqual(other.names(), [])

    def test_all_deeds(self):
        deeds = [("put", "x", "ab"), ("put", "", "b"), ("edit", "x", 2, 0, " b"), ("edit", "x", 0, 1, ""), ("undo", "x"), ("redo", "x"), ("redo", "x"),
                 ("put", "x", "a"), ("drop", "x"), ("put", "x", "bb"), ("undo", "x"), ("edit", "", 1, 0, "b\n\na")]
        for kind in (list, tuple):
            desk = Desk(self.sheet)
            found = desk.batch(kind(deeds))
            self.assertIs(type(found), list)
            other = Desk(self.sheet)
            expected = [other.put("x", "ab"), other.put("", "b"), other.edit("x", 2, put=" b"), other.edit("x", 0, cut=1), other.undo("x"), other.redo("x"), other.redo("x"),
                        other.put("x", "a"), other.drop("x"), other.put("x", "bb"), other.undo("x"), other.edit("", 1, put="b\n\na")]
            self.assertEqual(found, expected)
            self.assertEqual(found[4:7], [True, True, False])
            self.assertEqual([row[2:] for row in self.state(desk)], [row[2:] for row in self.state(other)])
            self.assertEqual(desk.names(), ["", "x"])
            self.check(desk, "", "bb\n\na")

    def test_no_deeds(self):
        self.assertEqual(self.desk.batch([]), [])
        self.assertEqual(self.desk.batch(()), [])

    def test_what_is_passed_stays(self):
        deeds = [("put", "x", "ab"), ("edit", "x", 0, 1, "")]
        self.desk.batch(deeds)
        self.assertEqual(deeds, [("put", "x", "ab"), ("edit", "x", 0, 1, "")])

    def test_what_is_no_deed(self):
        self.desk.put("x", "ab")
        good = ("put", "x", "b")
        for bad in (
            None, 1, 0, True, "put", "", ["put", "x", "b"], [], (), ("put",), ("put", "x"), ("put", "x", "b", "c"), ("puts", "x", "b"), ("PUT", "x", "b"), ("", "x", "b"),
            (None, "x", "b"), (1, "x", "b"), (("put",), "x", "b"), (["put"], "x", "b"), ({}, "x", "b"), ("put", 1, "b"), ("put", None, "b"), ("put", ("x",), "b"), ("put", "x", 1),
            ("put", "x", None), ("put", "x", ["b"]), ("put", b"x", "b"), ("put", "x", b"b"),
            ("edit", "x", 0, 0), ("edit", "x", 0, 0, "", ""), ("edit", "x", 0), ("edit", "x"), ("edit", "x", "0", 0, ""), ("edit", "x", 0, "0", ""), ("edit", "x", 0, 0, 0),
            ("edit", "x", True, 0, ""), ("edit", "x", False, 0, ""), ("edit", "x", 0, True, ""), ("edit", "x", 0, False, ""), ("edit", "x", None, 0, ""), ("edit", "x", 0, None, ""),
            ("edit", "x", 0, 0, None), ("edit", 5, 0, 0, ""), ("edit", "x", 0.0, 0, ""), ("edit", "x", 0, 1.0, ""), ("edit", "x", (0,), 0, ""),
            ("undo",), ("undo", "x", "x"), ("undo", 1), ("undo", None), ("redo",), ("redo", "x", "x"), ("redo", True), ("drop",), ("drop", "x", "x"), ("drop", ["x"]),
            ("galley", "x"), ("names",), ("batch", []), ("put", "x", "b", None), {"put": "x"}, 2.5, b"put", {"put"}, object(),
        ):
            with self.subTest(bad):
                for place, deeds in ((1, [bad]), (1, [bad, good]), (2, [good, bad]), (3, [good, ("drop", "x"), bad, bad, good]), (1, (bad, None))):
                    before = self.state(self.desk)
                    with self.assertRaises(GalleyError) as caught:
                        self.desk.batch(deeds)
                    self.assertEqual(fields_of(caught.exception), ("BadDeed", place))
                    self.assertEqual(self.state(self.desk), before)

    def test_forms_come_before_the_deeds(self):
        self.bad(BadDeed(3), self.desk.batch, [("undo", "nobody"), ("put", "x", "{"), ("undo",)])
        self.bad(NoText("nobody"), self.desk.batch, [("undo", "nobody"), ("put", "x", "{")])
        self.assertEqual(self.desk.put("x", "ab"), (1, 0, 0, 3))

    def test_integers_of_any_size(self):
        self.desk.put("x", "ab")
        for at, cut, what in ((-1, 0, "at"), (3, 0, "at"), (10 ** 20, 0, "at"), (0, 3, "cut"), (0, -1, "cut"), (2, 1, "cut")):
            self.bad(BadEdit(what), self.desk.batch, [("edit", "x", at, cut, "")])

    def test_an_error_in_each_place(self):
        self.desk.put("x", "a b")
        self.desk.put("x", "b")
        self.desk.put("x", "ab ab")
        self.desk.undo("x")
        self.desk.put("y", DEMO)
        self.desk.put("z", "ba")
        objects = {name: self.desk.galley(name) for name in "xyz"}
        deeds = [("edit", "x", 0, 0, "$a$ "), ("drop", "y"), ("put", "y", "$b$ a\n\n\\display{a}"), ("undo", "x"), ("redo", "x"), ("put", "new", "bb bb"), ("drop", "z"),
                 ("drop", "new"), ("put", "new", "a a a"), ("undo", "y"), ("put", "y", "a")]
        for place in range(len(deeds) + 1):
            for bad, error in ((("undo", "nobody"), NoText("nobody")), (("put", "fresh", "$bb$ x"), NoSign("x", 1)), (("edit", "x", 99, 0, ""), BadEdit("at")),
                               (("put", "x", "a\n\n\\float{99}{b b}"), TooTall(2)), (("put", "x", "a {"), BadText(1, 3, "open"))):
                self.bad(error, self.desk.batch, deeds[:place] + [bad] + deeds[place:])
            self.assertEqual({name: self.desk.galley(name) for name in self.desk.names()}, objects)
        # All that was kept since the beginning of the batches is forgotten, and the stacks are as before.
        self.assertEqual(self.desk.galley("x").put_text("$a$ b")[:3], (1, 0, 1))
        self.desk.undo("x")
        self.assertEqual(self.desk.put("w", "$b$ a\n\n\\display{a}")[:3], (1, 1, 1))
        self.assertEqual(self.desk.put("v", "bb bb")[:3], (1, 0, 0))
        self.check(self.desk, "x", "b")
        self.check(self.desk, "y", DEMO)
        self.assertIs(self.desk.undo("x"), True)
        self.check(self.desk, "x", "a b")
        self.assertEqual((self.desk.undo("x"), self.desk.undo("y")), (False, False))

    def test_as_if_the_batch_had_not_been_called(self):
        def played(desk, batches):
            found = [desk.put("x", "ab b"), desk.put("y", "a")]
            if batches:
                for deeds in ([("put", "x", "$a$"), ("drop", "x"), ("undo", "x")], [("put", "z", "bb"), ("put", "y", "$b$ bb"), ("put", "z", "x")], [("drop", "y"), ("put", "y", "{")]):
                    with self.assertRaises(GalleyError):
                        desk.batch(deeds)
            found += [desk.put("z", "bb"), desk.put("y", "$b$ bb"), desk.put("x", "$a$"), desk.undo("y"), desk.undo("y"), desk.redo("x"), desk.names()]
            return found, [row[2:] for row in self.state(desk)]

        self.assertEqual(played(Desk(self.sheet), False), played(Desk(self.sheet), True))

    def test_a_batch_that_is_done_cannot_be_undone_as_a_whole(self):
        self.desk.batch([("put", "x", "a"), ("put", "x", "b"), ("put", "x", "ab")])
        self.assertIs(self.desk.undo("x"), True)
        self.check(self.desk, "x", "b")

    def test_galleys_that_are_on_no_desk(self):
        self.desk.put("x", "a")
        galley = self.desk.galley("x")
        self.desk.drop("x")
        galley.put_text("ab b")
        self.bad(NoText("x"), self.desk.batch, [("put", "y", "ab b\n\n$a$"), ("undo", "x")])
        self.assertEqual(galley.text, "ab b")
        self.assertIs(galley.undo(), True)
        self.assertEqual(galley.work()[:3], (0, 0, 0))
        self.assertIs(galley.redo(), True)
        self.assertEqual(galley.work()[:3], (0, 0, 0))

    def test_random_batches(self):
        sheet = rich_sheet()
        for seed in range(3):
            maker = TextMaker(580 + seed)
            dice = maker.dice
            desk = Desk(sheet)
            for _ in range(25):
                deeds = []
                for _ in range(1 + dice.below(3)):
                    name = dice.pick("pqr")
                    deeds.append(dice.pick((("put", name, maker.text(1 + dice.below(4))), ("put", name, "One two"), ("edit", name, dice.below(12), 0, dice.pick(("a", "\n\n", "{", "$x$"))),
                                            ("undo", name), ("redo", name), ("drop", name))))
                before = self.state(desk)
                try:
                    found = desk.batch(deeds)
                except GalleyError:
                    self.assertEqual(self.state(desk), before)
                else:
                    self.assertEqual(len(found), len(deeds))
                for name in desk.names():
                    self.check(desk, name, desk.galley(name).text, sheet)


if __name__ == "__main__":
    unittest.main()
