"""The cost of a line and the task of a paragraph: [32], [33]."""

import unittest

from galleywork.glue import Glue
from galleywork.judging import judge
from galleywork.linetask import LineTask, line_cost
from galleywork.ways import Task, reached, solve, togo, way_cost
from helper import Case, Dice, plain_cost, strip_of, style_of, told_font, ways_from, works_of

LETTERS = {char: 2 for char in "abcdexyz"}


def cubes(slack, room):
    """Badness, for a room that is not 0."""
    return min(10000, 100 * slack ** 3 // room ** 3)


def plain_class(slack, bad):
    if bad <= 12:
        return 1
    return 0 if slack < 0 else 2 if bad < 100 else 3


class CostTest(Case):

    def setUp(self):
        # The chunks are as wide as the measure at most, but for the last one. The leading of f is 7, that of s is 30.
        self.works = works_of(told_font("f", LETTERS, above=5, below=2), told_font("s", LETTERS))
        # Position 1 has the kind 0, 2 the kind 1, 3 the kind 3, 4 to 53 the kind 2, and 54 the kind 4.
        self.text = "a b\\-c\\\\" + "d" * 51
        self.strips = {align: strip_of(self.works, style_of(align=align, measure=100, strong="s"), self.text, 100)
                       for align in ("full", "left", "centre", "right")}

    def cost(self, i, j, glue, align="full"):
        return self.answer(line_cost, self.strips[align], i, j, Glue(*glue))

    def test_the_kinds_of_this_test(self):
        strip = self.strips["full"]
        self.assertEqual([strip.kind(k) for k in (0, 1, 2, 3, 4, 53, 54)], [None, 0, 1, 3, 2, 2, 4])

    def test_full(self):
        for glue, found in (
            ((100, 9, 9), (1, 100)), ((100, 0, 0), (1, 100)),
            # Stretched: the slack is 10.
            ((90, 10, 0), (3, 110 * 110)), ((90, 20, 5), (1, 22 * 22)), ((90, 19, 0), (2, 24 * 24)), ((90, 11, 0), (2, 85 * 85)),
            ((90, 0, 5), (3, 10010 ** 2)), ((90, 2, 0), (3, 10010 ** 2)), ((90, 3, 0), (3, (10 + 3703) ** 2)), ((90, 10 ** 9, 0), (1, 100)),
            ((0, 100, 0), (3, 110 * 110)), ((0, 0, 0), (3, 10010 ** 2)),
            # Shrunk: the slack is -10.
            ((110, 0, 10), (0, 110 * 110)), ((110, 50, 10), (0, 110 * 110)), ((110, 0, 20), (1, 22 * 22)), ((110, 0, 19), (0, 24 * 24)),
            ((110, 0, 11), (0, 85 * 85)), ((110, 7, 110), (1, 100)), ((200, 0, 100), (0, 110 * 110)),
            # It just does not fit.
            ((110, 50, 9), None), ((101, 0, 0), None), ((101, 9, 1), (0, 110 * 110)), ((200, 0, 99), None), ((10 ** 12, 0, 0), None),
        ):
            with self.subTest(glue):
                self.assertEqual(self.cost(0, 1, glue), found)

    def test_other_alignments(self):
        for align in ("left", "centre", "right"):
            for glue, found in (
                ((100, 0, 0), (1, 100)), ((100, 9, 9), (1, 100)), ((101, 9, 9), None), ((101, 0, 100), None),
                # Three times the leading of f is 21.
                ((90, 0, 0), (1, 20 * 20)), ((90, 50, 50), (1, 20 * 20)), ((89, 0, 0), (2, 24 * 24)), ((80, 0, 0), (2, 96 * 96)),
                ((79, 0, 0), (3, 110 * 110)), ((0, 0, 0), (3, 10010 ** 2)), ((4, 0, 0), (3, (10 + 9553) ** 2)),
            ):
                with self.subTest((align, glue)):
                    self.assertEqual(self.cost(0, 1, glue, align), found)

    def test_ends_of_the_kinds_3_and_4(self):
        for i, j in ((1, 3), (3, 54)):
            for align in ("full", "left", "centre", "right"):
                for glue in ((100, 0, 0), (90, 0, 0), (0, 0, 0), (0, 5, 5)):
                    with self.subTest((j, align, glue)):
                        self.assertEqual(self.cost(i, j, glue, align), (1, 100))
            self.assertEqual(self.cost(i, j, (110, 99, 10)), (0, 110 * 110))
            self.assertEqual(self.cost(i, j, (101, 99, 1)), (0, 110 * 110))
            self.assertEqual(self.cost(i, j, (101, 99, 2)), (1, 22 * 22))
            self.assertEqual(self.cost(i, j, (101, 99, 0)), None)
            self.assertEqual(self.cost(i, j, (101, 99, 100), "left"), None)

    def test_added_costs(self):
        for i, j, added in (
            (0, 1, 0), (0, 2, 2500), (1, 2, 2500), (2, 3, 0), (2, 54, 0), (0, 4, 1000000), (3, 4, 1000000), (2, 4, 1003000),
            (4, 5, 1003000), (4, 54, 0), (53, 54, 0), (1, 3, 0), (4, 53, 1003000), (3, 53, 1000000), (1, 53, 1000000),
        ):
            for align in ("full", "left"):
                with self.subTest((i, j)):
                    self.assertEqual(self.cost(i, j, (100, 0, 0), align), (1, 100 + added))
            self.assertEqual(self.cost(i, j, (110, 0, 10)), (0, 110 * 110 + added))

    def test_a_hyphen_behind_a_hyphen(self):
        strip = strip_of(self.works, style_of(), "a\\-b\\-c d-e", 100)
        self.assertEqual([strip.kind(k) for k in range(7)], [None, 1, 1, 0, None, 1, 4])
        for i, j, added in ((0, 1, 2500), (1, 2, 5500), (2, 3, 0), (1, 5, 5500), (3, 5, 2500), (5, 6, 0)):
            self.assertEqual(line_cost(strip, i, j, Glue(100, 0, 0)), (1, 100 + added))

    def test_the_greatest_cost(self):
        self.assertEqual(self.cost(4, 5, (99, 0, 0)), (3, 101206100 - 3000))

    def test_great_numbers(self):
        great = 10 ** 12
        self.assertEqual(self.cost(0, 1, (100 + great, 0, 2 * great)), (1, 22 * 22))
        self.assertEqual(self.cost(0, 1, (0, great, 0)), (1, 100))


class LineTest(Case):

    def setUp(self):
        self.works = works_of(told_font("f", LETTERS), told_font("s", LETTERS, gap=(3, 2, 2)), patterns=("1c",))

    def task(self, text, measure, **changes):
        return LineTask(strip_of(self.works, style_of(strong="s", **changes), text, measure))

    def lines(self, strip, i):
        """The lines from i to the places to which there is a step, by the words of the document."""
        found = []
        for j in strip.places():
            if j > i and 3 not in [strip.kind(k) for k in range(i + 1, j)]:
                line = line_cost(strip, i, j, strip.glue(i, j))
                if line is not None:
                    found.append((j, *line))
        return found

    def test_methods(self):
        task = self.task("a b\\-c\\\\de", 100)
        self.assertIsInstance(task, Task)
        self.assertEqual(self.answer(task.first), (0, 1))
        for k in range(6):
            for c in range(4):
                self.assertEqual(task.is_end((k, c)), (k, c) == (5, 1))
                self.assertEqual(task.rank((k, c)), k)
        self.assertEqual(task.steps((5, 1)), [])

    def test_lines_and_steps(self):
        task = self.task("a bb\\\\d", 7)
        # a and bb have 2 + 2 + 4 = 8, and shrink to 7; the gap of 2 has the shrink 1.
        self.assertEqual(self.answer(task.lines_from, 0), [(1, 3, 10010 ** 2), (3, 0, 110 * 110)])
        self.assertEqual(self.answer(task.lines_from, 1), [(3, 1, 100)])
        self.assertEqual(self.answer(task.lines_from, 3), [(4, 1, 100)])
        self.assertEqual(self.answer(task.steps, (0, 1)), [(10010 ** 2 + 3000, (1, 3)), (110 * 110, (3, 0))])
        self.assertEqual(self.answer(task.steps, (1, 3)), [(3100, (3, 1))])
        self.assertEqual(self.answer(task.steps, (1, 2)), [(100, (3, 1))])
        for c, jump in ((0, 0), (1, 0), (2, 0), (3, 3000)):
            self.assertEqual(self.answer(task.steps, (3, c)), [(100 + jump, (4, 1))])
            self.assertEqual(self.answer(task.steps, (1, c)), [(100 + jump, (3, 1))])

    def test_classes_that_differ(self):
        task = self.task("a bb\\\\d", 7)
        for c, first, second in ((0, 3000, 0), (1, 3000, 0), (2, 0, 3000), (3, 0, 3000)):
            self.assertEqual(self.answer(task.steps, (0, c)), [(10010 ** 2 + first, (1, 3)), (110 * 110 + second, (3, 0))])

    def test_the_end_has_the_class_1_in_any_case(self):
        # One line of the natural length 8 for the measure 7, of class 0.
        task = self.task("a bb", 7)
        self.assertEqual(task.lines_from(0), [(1, 3, 10010 ** 2), (3, 0, 110 * 110)])
        self.assertEqual(task.steps((0, 1)), [(10010 ** 2 + 3000, (1, 3)), (110 * 110, (3, 1))])
        self.assertEqual(task.steps((0, 3)), [(10010 ** 2, (1, 3)), (110 * 110 + 3000, (3, 1))])

    def test_no_step_goes_beyond_a_cut(self):
        task = self.task("a b\\\\c d\\\\x", 1000)
        self.assertEqual([j for j, _, _ in task.lines_from(0)], [1, 2])
        self.assertEqual([j for j, _, _ in task.lines_from(1)], [2])
        self.assertEqual([j for j, _, _ in task.lines_from(2)], [3, 4])
        self.assertEqual([j for j, _, _ in task.lines_from(4)], [5])

    def test_a_line_that_does_not_fit_is_left_out_alone(self):
        # With its hyphen the word is too wide for a line, without it not: the later place is still there.
        works = works_of(told_font("f", {"a": 6, "b": 6, "ab": 7}, joins=(("a", "b", "ab"),)))
        task = LineTask(strip_of(works, style_of(), "a\\-b", 7))
        self.assertEqual(task.lines_from(0), [(2, 1, 100)])

    def test_no_solids(self):
        for task in (self.task("", 5), self.task("", 1, indent=0, align="left")):
            self.assertEqual((task.first(), task.is_end((0, 1)), task.rank((0, 1)), task.steps((0, 1))), ((0, 1), True, 0, []))
            self.assertEqual(task.lines_from(0), [])
            self.assertEqual(self.answer(solve, task), (((0, 1),), (((0, 1), 0),)))
            self.assertIs(judge(task, ((0, 1),), (((0, 1), 0),)), True)

    def test_example(self):
        works = works_of(told_font("f", {"a": 1, "b": 2, "c": 3, "d": 4}))
        task = LineTask(strip_of(works, style_of(measure=9), "c b d a c b"))
        way, paper = self.answer(solve, task)
        self.assertEqual(way, ((0, 1), (2, 3), (4, 3), (6, 1)))
        self.assertEqual(dict(paper)[0, 1], 1318300)
        self.assertEqual([cost for cost, after in task.steps((0, 1)) if after == (2, 3)], [659100])
        self.assertEqual([cost for cost, after in task.steps((2, 3)) if after == (4, 3)], [656100])
        self.assertEqual([cost for cost, after in task.steps((4, 3)) if after == (6, 1)], [3100])
        self.assertIs(judge(task, way, paper), True)

    def test_the_states_of_a_paper(self):
        task = self.task("a b\\-c dd", 100)
        self.assertEqual([task._strip.kind(k) for k in range(6)], [None, 0, 1, 0, None, 4])
        way, paper = solve(task)
        self.assertTrue(judge(task, way, paper))
        full = {}
        for k in (5, 3, 2, 1, 0):
            for c in range(4):
                if k < 5 or c == 1:
                    numbers = [cost + full[after] for cost, after in task.steps((k, c)) if full[after] is not None]
                    full[k, c] = 0 if k == 5 else min(numbers, default=None)
        pairs = sorted(full.items())
        self.assertTrue(judge(task, way, pairs))
        for state in ((4, 0), (4, 1), (5, 0), (5, 2), (5, 3), (6, 0), (6, 1), (-1, 0), (-1, 1), (0, 4), (0, -1), (1, 4), (3, -1), (-5, 1)):
            with self.subTest(state):
                for number in (0, None):
                    self.assertFalse(judge(task, way, sorted(pairs + [(state, number)], key=lambda pair: pair[0])))

    def test_by_the_definition(self):
        dice = Dice(31)
        for n in range(150):
            text = "".join(dice.pick(("a", "b", "c", "ac", "-", "$x$", " ", " ", "~", "\\-", "\\\\", "\\strong{c d}"))
                           for _ in range(8)) + "a"
            align = dice.pick(("full", "full", "left", "centre", "right"))
            task = self.task(text, 6 + dice.below(12), align=align, indent=dice.below(3))
            strip = task._strip
            states = reached(task)
            self.assertLessEqual(len(states), 4 * strip.count + 1)
            for i in (0, *strip.places()):
                self.assertEqual(self.answer(task.lines_from, i), self.lines(strip, i))
            for i, c in states:
                steps = []
                for j, own, cost in self.lines(strip, i):
                    cost += 3000 if (c - own) ** 2 > 1 else 0
                    steps.append((cost, (j, own) if j < strip.count else (j, 1)))
                self.assertEqual(self.answer(task.steps, (i, c)), steps)
                self.assertLessEqual(max([cost for cost, _ in steps], default=0), 101206100)
            way, paper = self.answer(solve, task)
            self.assertEqual(dict(paper), togo(task))
            self.assertIs(judge(task, way, paper), True)
            ways = ways_from(task, (0, 1)) if n < 50 else []
            if ways and way is not None:
                costs = [plain_cost(task, one) for one in ways]
                self.assertEqual(way, ways[costs.index(min(costs))])
                self.assertEqual(way_cost(task, way), min(costs))

    def test_each_line_by_numbers(self):
        dice = Dice(32)
        for _ in range(40):
            text = "".join(dice.pick(("a", "b", "ca", " ", " ", "\\-", "\\\\")) for _ in range(9)) + "a"
            align = dice.pick(("full", "left"))
            task = self.task(text, 7 + dice.below(9), align=align, indent=1)
            strip = task._strip
            for i in (0, *strip.places()):
                for j, own, cost in task.lines_from(i):
                    natural, stretch, shrink = strip.glue(i, j).plain()
                    slack = strip.measure - natural
                    if slack >= 0 and strip.kind(j) in (3, 4) or slack == 0:
                        bad = 0
                    else:
                        room = 3 * 30 if align == "left" else stretch if slack > 0 else shrink
                        bad = cubes(abs(slack), room) if room else 10000
                    self.assertEqual(own, plain_class(slack, bad))
                    ends = [strip.kind(i), strip.kind(j)]
                    added = {1: 2500, 2: 1000000}.get(ends[1], 0) + (3000 if set(ends) <= {1, 2} else 0)
                    self.assertEqual(cost, (10 + bad) ** 2 + added)


if __name__ == "__main__":
    unittest.main()
