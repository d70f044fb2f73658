"""Groups: [4]."""

import unittest

from galleywork.errors import BadText
from galleywork.groups import DEPTH_LIMIT, check_braces, group_end, groups_behind
from galleywork.tokens import tokenize
from helper import Case


class BraceTest(Case):

    def test_depth_limit(self):
        self.assertEqual(DEPTH_LIMIT, 12)

    def test_good_braces(self):
        for text in ("", "a", "{}", "{a}{b}", "{{}{{}}}a{}", "{" * 12 + "}" * 12, "{}" * 30, "{" * 12 + "}{}" + "}" * 11):
            with self.subTest(text):
                self.assertIs(self.answer(check_braces, tokenize(text)), True)

    def test_shut(self):
        for text, line, column in (("}", 1, 1), ("a}", 1, 2), ("{}}", 1, 3), ("{\n}\n}{", 3, 1), ("{a}}}", 1, 4)):
            with self.subTest(text):
                self.refused(BadText(line, column, "shut"), check_braces, tokenize(text))

    def test_depth(self):
        self.assertIs(check_braces(tokenize("a" + "{" * 12 + "}" * 12)), True)
        self.refused(BadText(1, 13, "depth"), check_braces, tokenize("{" * 13 + "}" * 13))
        self.refused(BadText(1, 14, "depth"), check_braces, tokenize("a" + "{" * 14))
        self.refused(BadText(2, 2, "depth"), check_braces, tokenize("{}" + "{" * 12 + "}\n{{"))

    def test_open(self):
        for text, line, column in (
            ("{", 1, 1), ("a{", 1, 2), ("{{", 1, 1), ("a{\n\n {", 1, 2), ("{\n}\n{ {}{", 3, 1), ("{}{", 1, 3), ("{}\n {{}", 2, 2), ("{{}{}", 1, 1), ("{a}{b{c}", 1, 4),
        ):
            with self.subTest(text):
                self.refused(BadText(line, column, "open"), check_braces, tokenize(text))

    def test_from_the_left(self):
        self.refused(BadText(1, 3, "shut"), check_braces, tokenize("{}}" + "{" * 13))
        self.refused(BadText(1, 13, "depth"), check_braces, tokenize("{" * 13 + "}" * 14))


class EndTest(Case):

    def test_group_end(self):
        tokens = tokenize("a{b{c}{}}{d}")
        for at, end in ((1, 8), (3, 5), (6, 7), (9, 11)):
            with self.subTest(at):
                self.assertEqual(self.answer(group_end, tokens, at), end)

    def test_groups_behind(self):
        tokens = tokenize("\\x{a}{{b}} {c}{}")
        for at, count, expected in (
            (1, 0, []), (1, 1, [(1, 3)]), (1, 2, [(1, 3), (4, 8)]), (1, 3, None), (0, 0, []), (0, 1, None),
            (4, 1, [(4, 8)]), (5, 1, [(5, 7)]), (5, 2, None), (9, 1, None), (10, 1, [(10, 12)]),
            (10, 2, [(10, 12), (13, 14)]), (10, 3, None), (15, 0, []), (15, 1, None), (2, 1, None), (3, 1, None),
        ):
            with self.subTest((at, count)):
                self.assertEqual(self.answer(groups_behind, tokens, at, count), expected)

    def test_a_par_parts_groups(self):
        self.assertIsNone(groups_behind(tokenize("{a}\n\n{b}"), 0, 2))

    def test_nine_groups(self):
        self.assertEqual(groups_behind(tokenize("{}" * 9), 0, 9), [(k, k + 1) for k in range(0, 18, 2)])

    def test_no_tokens(self):
        self.assertEqual(groups_behind([], 0, 0), [])
        self.assertIsNone(groups_behind([], 0, 1))


if __name__ == "__main__":
    unittest.main()
