"""Quick lines: [34]."""

import unittest

from galleywork.judging import judge
from galleywork.linetask import LineTask
from galleywork.quicklines import QuickLineTask
from galleywork.ways import Task, reached, solve, togo, way_cost
from helper import Case, Dice, strip_of, style_of, told_font, works_of

SIGNS = {"a": 6, "b": 5, "c": 4, "d": 7, "x": 3, "ab": 9, "abc": 10, "bc": 5, "A": 8, "-": 2, "+": 4}
KERNS = (("a", "b", -2), ("b", "a", 3), ("ab", "d", -3), ("c", "-", -1), ("abc", "a", 2), ("d", "d", -3), ("a", "-", 2), ("d", "bc", 1))
JOINS = (("a", "b", "ab"), ("ab", "c", "abc"), ("b", "c", "bc"), ("c", "-", "c"))
WORKS = works_of(
    told_font("f", SIGNS, gap=(5, 3, 2), kerns=KERNS, joins=JOINS, above=5, below=2),
    told_font("s", SIGNS, gap=(9, 4, 9), kerns=(("a", "b", 7),), joins=(("d", "a", "d"),)),
    patterns=("1c", "a1b"), exceptions=("ab-ab-d",))
PARTS = ("a", "ab", "abc", "bcd", "dd", "cab", "ababd", "a-b", "A", "1", "-", "$x$", "$a+b$", "\\note{a}", " ", " ", " ", "~", "\\-", "\\-",
         "\\\\", "\\strong{ab d}", "\\strong{c}", "\\strong{~da}", "\\mark{m}")


class QuickTest(Case):

    def same(self, strip):
        """The quick task and the other one say the same, and the quick one is solved."""
        slow, quick = LineTask(strip), QuickLineTask(strip)
        self.assertEqual(quick.first(), slow.first())
        for i in (0, *strip.places()):
            self.assertEqual(self.answer(quick.lines_from, i), slow.lines_from(i), (strip.solids, strip.joints, strip.measure, i))
            for c in range(4):
                if i < strip.count or c == 1:
                    self.assertEqual(self.answer(quick.steps, (i, c)), slow.steps((i, c)))
                    self.assertIs(quick.is_end((i, c)), slow.is_end((i, c)))
                    self.assertEqual(quick.rank((i, c)), slow.rank((i, c)))
        way, paper = solve(quick)
        self.assertEqual((way, paper), solve(slow))
        self.assertEqual(reached(quick), reached(slow))
        self.assertEqual(togo(quick), dict(paper))
        for task in (quick, slow):
            self.assertIs(judge(task, way, paper), True)
            self.assertEqual(way_cost(task, way), dict(paper)[slow.first()])
        return way

    def test_classes(self):
        task = QuickLineTask(strip_of(WORKS, style_of(), "ab", 50))
        self.assertIsInstance(task, LineTask)
        self.assertIsInstance(task, Task)

    def test_no_solids_and_one(self):
        for text in ("", "a", "$x$", "\\note{a}"):
            for align in ("full", "right"):
                self.assertIsNotNone(self.same(strip_of(WORKS, style_of(align=align), text, 20)))

    def test_texts(self):
        for text in (
            "ab abc ababd", "a\\-b\\-c", "aabab ababd-ab", "ab~abc~$x$ a", "a$x$b\\note{a}c d", "ab\\strong{ab}ab a", "\\strong{a b} a",
            "ab\\\\abc ab\\\\a", "abcabcabcabcabc", "$x$\\note{a}$x$~$x$ $x$", "a--b-c d", "a\\strong{ }b\\strong{~}c", "dddddd dd ddd",
            "ababd ababd ababd", "c\\-c\\-c c\\-", "1a-b2 A-a",
        ):
            for measure in range(10, 70, 7):
                for align, indent in (("full", 0), ("full", 4), ("left", 0), ("right", 5)):
                    with self.subTest((text, measure, align)):
                        self.same(strip_of(WORKS, style_of(align=align, indent=indent, strong="s"), text, measure))

    def test_random_texts(self):
        dice = Dice(41)
        ways = 0
        for _ in range(200):
            text = "".join(dice.pick(PARTS) for _ in range(dice.below(14))) + "a"
            style = style_of(align=dice.pick(("full", "full", "left", "centre", "right")), indent=dice.pick((0, 0, 4)), strong="s")
            way = self.same(strip_of(WORKS, style, text, 16 + dice.below(60)))
            ways += way is not None
        self.assertGreater(ways, 150)

    def test_a_hyphen_that_joins_and_one_with_a_kern(self):
        # The hyphen joins with c and makes it no wider, behind a it has a kern.
        for text, j, width in (("c\\-d", 1, 4), ("a\\-d", 1, 10), ("abc\\-d", 3, 12), ("d\\-d", 1, 9)):
            strip = strip_of(WORKS, style_of(align="left"), text + " d", 1000)
            self.assertEqual(strip.glue(0, j).natural, width)
            self.same(strip)
            for measure in (width - 1, width, width + 1):
                self.same(strip_of(WORKS, style_of(align="left"), text + " d", measure))

    def test_letters_that_are_taken_off_a_word(self):
        # Behind a break in a word neither the join nor the kern with the letter ahead counts.
        for text in ("a\\-b ab", "b\\-a abc", "a\\-bc\\-d dd", "ab\\-c\\-a a"):
            for measure in range(8, 60):
                self.same(strip_of(WORKS, style_of(), text, measure))

    def test_no_end_of_a_chunk_is_passed_too_early(self):
        # The break in the word does not fit, the end of the word fits.
        works = works_of(told_font("f", {"a": 6, "b": 6, "ab": 7}, joins=(("a", "b", "ab"),)))
        for measure, places in ((8, [1, 2]), (7, [2]), (6, [])):
            strip = strip_of(works, style_of(), "a\\-b a\\-b", measure)
            self.same(strip)
            self.assertEqual([j for j, _, _ in QuickLineTask(strip).lines_from(0)], places)
        # A word whose last letter makes it much less wide than it is ahead of this letter.
        works = works_of(told_font("f", {"a": 90, "b": 90, "c": 90, "ab": 1, "-": 80}, kerns=(("a", "-", 45), ("b", "a", 45)),
                                   joins=(("a", "b", "ab"),)))
        for measure in (1, 90, 91, 92, 134, 135, 136, 216, 300):
            for text in ("c\\-a\\-b", "ba\\-b", "ca\\-b a\\-b", "cbabab"):
                self.same(strip_of(works, style_of(), text, measure))

    def test_long_paragraphs(self):
        works = works_of(told_font("f", {char: 2 for char in "abc"}), patterns=("1b",))
        for text, measure in (("abcab " * 900 + "a", 120), ("a " * 1500 + "a", 60), ("abc\\-" * 500 + "a", 60), ("aaaaa" * 500, 50),
                              ("a\\\\" * 1500 + "a", 50)):
            strip = strip_of(works, style_of(), text, measure)
            task = QuickLineTask(strip)
            way, paper = solve(task)
            self.assertIsNotNone(way)
            self.assertTrue(judge(task, way, paper))
            self.assertLessEqual(len(paper), 4 * strip.count + 1)


if __name__ == "__main__":
    unittest.main()
