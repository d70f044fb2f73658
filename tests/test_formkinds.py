"""The kinds of items of formulas, and gaps: [22]."""

import unittest

from galleywork.chars import WORD_CHARS
from galleywork.formkinds import gap_between, item_kind, kinds_of
from helper import Case, math_of

KINDS = ("oper", "rel", "open", "shut", "comma", "plain")
CHARS = {"oper": "+-*/", "rel": "=<>", "open": "([", "shut": ")]", "comma": ",;"}


def sign(char):
    return ("sign", char)


def items_of(text):
    return [sign(char) for char in text]


class KindTest(Case):

    def test_characters(self):
        for char in WORD_CHARS:
            expected = [kind for kind in CHARS if char in CHARS[kind]] or ["plain"]
            with self.subTest(char):
                self.assertEqual([self.answer(item_kind, sign(char))], expected)

    def test_other_trees(self):
        a = sign("+")
        row = ("row", (a,))
        for tree in (row, ("row", ()), ("over", row, row), ("root", row), ("fence", "(", ")", row), ("fence", "", "", row),
                     ("grid", ((row,),))):
            with self.subTest(tree):
                self.assertEqual(self.answer(item_kind, tree), "plain")

    def test_scripts(self):
        for kind, chars in {**CHARS, "plain": "a0.!"}.items():
            for char in chars:
                for up, down in ((sign("="), None), (None, sign(",")), (sign("("), ("row", ()))):
                    self.assertEqual(self.answer(item_kind, ("script", sign(char), up, down)), kind)

    def test_scripts_of_rows_and_commands(self):
        row = ("row", (sign("+"),))
        for base in (row, ("over", row, row), ("root", row), ("fence", "(", ")", row), ("grid", ((row,),))):
            self.assertEqual(item_kind(("script", base, sign("+"), None)), "plain")
            self.assertEqual(item_kind(("script", base, None, sign("="))), "plain")


class CountTest(Case):

    def counted(self, items):
        found = self.answer(kinds_of, list(items))
        self.assertEqual(self.answer(kinds_of, tuple(items)), found)
        self.assertIs(type(found), list)
        return found

    def test_rows(self):
        for text, kinds in (
            ("", []),
            ("a", ["plain"]),
            ("=", ["rel"]),
            ("=<>", ["rel", "rel", "rel"]),
            ("(a)", ["open", "plain", "shut"]),
            ("a,b;", ["plain", "comma", "plain", "comma"]),
            ("+", ["plain"]),
            ("+a", ["plain", "plain"]),
            ("a+", ["plain", "plain"]),
            ("a+b", ["plain", "oper", "plain"]),
            ("a+-b", ["plain", "oper", "plain", "plain"]),
            ("a+-*b", ["plain", "oper", "plain", "oper", "plain"]),
            ("a+-*/b", ["plain", "oper", "plain", "oper", "plain", "plain"]),
            ("+-a", ["plain", "oper", "plain"]),
            ("+-*a", ["plain", "oper", "plain", "plain"]),
            ("++", ["plain", "plain"]),
            ("+++", ["plain", "oper", "plain"]),
            ("++++", ["plain", "oper", "plain", "plain"]),
            ("a=-b", ["plain", "rel", "plain", "plain"]),
            ("a=--b", ["plain", "rel", "plain", "oper", "plain"]),
            ("(-b", ["open", "plain", "plain"]),
            ("[*b", ["open", "plain", "plain"]),
            ("a,-b", ["plain", "comma", "plain", "plain"]),
            ("a;/b", ["plain", "comma", "plain", "plain"]),
            ("a)-b", ["plain", "shut", "oper", "plain"]),
            (")-b", ["shut", "oper", "plain"]),
            ("a)-", ["plain", "shut", "plain"]),
            ("a+(-b)", ["plain", "oper", "open", "plain", "plain", "shut"]),
        ):
            with self.subTest(text):
                self.assertEqual(self.counted(items_of(text)), kinds)

    def test_scripts_in_rows(self):
        plus = ("script", sign("+"), sign("a"), None)
        self.assertEqual(self.counted([sign("a"), plus, sign("b")]), ["plain", "oper", "plain"])
        self.assertEqual(self.counted([plus, sign("b")]), ["plain", "plain"])
        self.assertEqual(self.counted([sign("a"), plus, sign("-"), sign("b")]), ["plain", "oper", "plain", "plain"])
        relation = ("script", sign("="), None, sign("a"))
        self.assertEqual(self.counted([sign("a"), relation, sign("-"), sign("b")]), ["plain", "rel", "plain", "plain"])

    def test_groups_in_rows(self):
        group = ("row", (sign("="),))
        self.assertEqual(self.counted([group, sign("-"), group]), ["plain", "oper", "plain"])
        self.assertEqual(self.counted([("root", group), sign("-"), ("over", group, group), sign("=")]),
                         ["plain", "oper", "plain", "rel"])


class GapTest(Case):

    def test_all_pairs(self):
        math = math_of(wide=7, thin=3)
        for left in KINDS:
            for right in KINDS:
                if left == "rel" and right == "rel":
                    gap = 0
                elif "rel" in (left, right):
                    gap = 7
                elif "oper" in (left, right):
                    gap = 3
                elif left == "comma":
                    gap = 3
                else:
                    gap = 0
                with self.subTest((left, right)):
                    self.assertEqual(self.answer(gap_between, math, left, right), gap)

    def test_some_pairs(self):
        math = math_of(wide=100, thin=1)
        for left, right, gap in (
            ("rel", "rel", 0), ("rel", "oper", 100), ("oper", "rel", 100), ("comma", "rel", 100), ("rel", "comma", 100),
            ("oper", "oper", 1), ("plain", "oper", 1), ("oper", "shut", 1), ("comma", "comma", 1), ("comma", "plain", 1),
            ("plain", "comma", 0), ("shut", "comma", 0), ("open", "plain", 0), ("shut", "open", 0), ("plain", "plain", 0),
        ):
            self.assertEqual(gap_between(math, left, right), gap)


if __name__ == "__main__":
    unittest.main()
