"""Setting a display: [37]."""

import unittest

from galleywork.book import Book
from galleywork.displays import DisplayTask, set_display
from galleywork.errors import NoSign, TooWide
from galleywork.formboxes import formula_box
from galleywork.formkinds import kinds_of
from galleywork.formparts import row_box
from galleywork.formread import read_formula
from galleywork.judging import judge
from galleywork.paragraphs import Paragraph
from galleywork.tokens import tokenize
from galleywork.ways import Task, reached, solve, togo, way_cost
from helper import SIZE, Case, Dice, StandIn, plain_cost, row_of, style_of, told, told_font, ways_from, works_of

LETTERS = {char: (4, 5, 1) for char in "abcxyz+-*/=<>(),;"}


class DisplayCase(Case):

    def setUp(self):
        # Each item is 4 wide, with 3 on each side of a relation and 1 on each side of an operator. 3 * leading is 24.
        self.works = works_of(told_font("f", {}, above=6, below=2), told_font("m", {**LETTERS, "d": (4, 9, 5)}), font="m", wide=3, thin=1)

    def style(self, measure, **changes):
        return style_of(name="display", measure=measure, **changes)

    def task(self, text, measure, **changes):
        return DisplayTask(self.works, self.style(measure, **changes), row_of(text))


class TaskTest(DisplayCase):

    def test_methods(self):
        task = self.task("a+b=c", 100)
        self.assertIsInstance(task, Task)
        self.assertEqual(self.answer(task.first), (0,))
        for k in range(7):
            self.assertEqual(task.is_end((k,)), k == 5)
            self.assertEqual(task.rank((k,)), k)
        self.assertEqual(self.answer(task.steps, (5,)), [])

    def test_one_item(self):
        for text in "a+=(":
            task = self.task(text, 4)
            self.assertEqual(self.answer(task.steps, (0,)), [(100, (1,))])
            self.assertEqual(self.answer(solve, task), (((0,), (1,)), (((0,), 100), ((1,), 0))))
            self.assertEqual(self.task(text, 3).steps((0,)), [])

    def test_states_stand_behind_relations_and_operators_alone(self):
        for text, states in (
            ("abc", [0, 3]), ("a+b", [0, 2, 3]), ("a=b", [0, 2, 3]), ("+ab", [0, 3]), ("ab+", [0, 3]), ("=ab", [0, 1, 3]),
            ("ab=", [0, 3]), ("(a,b;c)", [0, 7]), ("a+-b", [0, 2, 4]), ("a=-b", [0, 2, 4]), ("a+b-c=a*b", [0, 2, 4, 6, 8, 9]),
            ("=", [0, 1]), ("==", [0, 1, 2]), ("a+(-b)", [0, 2, 6]),
        ):
            with self.subTest(text):
                task = self.task(text, 1000)
                self.assertEqual(reached(task), [(k,) for k in states])
                way, paper = solve(task)
                for k in range(-1, len(text) + 2):
                    if (k,) not in reached(task):
                        for number in (None, 0):
                            self.assertFalse(judge(task, way, sorted((*paper, ((k,), number)), key=lambda pair: pair[0])))

    def test_a_state_that_is_not_reached(self):
        # The first piece that ends at a state is too wide.
        task = self.task("aaaa=b=c", 19)
        self.assertEqual(solve(task), (None, (((0,), None),)))
        full = (((0,), None), ((5,), 100), ((7,), 100), ((8,), 0))
        self.assertTrue(judge(task, None, full))
        self.assertFalse(judge(task, None, (((0,), None), ((6,), None))))

    def test_pieces_keep_the_kinds_of_the_whole_row(self):
        task = self.task("a+b=c", 1000)
        boxes = [self.works.formula(row_of(char))[4][0][2] for char in "a+b=c"]
        kinds = ["plain", "oper", "plain", "rel", "plain"]
        for i in range(5):
            for j in range(i + 1, 6):
                piece = self.answer(task.piece_box, i, j)
                self.assertEqual(piece, row_box(self.works.book.math_of(0), boxes[i:j], kinds[i:j]))
        self.assertEqual([task.piece_box(0, 2)[1], task.piece_box(1, 3)[1], task.piece_box(1, 2)[1]], [9, 9, 4])
        self.assertEqual([task.piece_box(2, 4)[1], task.piece_box(3, 5)[1], task.piece_box(0, 5)[1]], [11, 11, 28])
        self.assertEqual(task.piece_box(0, 5), self.works.formula(row_of("a+b=c")))

    def test_pieces_are_made_at_size_0(self):
        works = works_of(told_font("f", {"a": 5, "b": 9, "=": 3}), wide=2)
        row = ("row", (("over", row_of("a"), row_of("b")), ("sign", "="), ("row", (("sign", "a"), ("sign", "="), ("sign", "b")))))
        task = DisplayTask(works, self.style(1000), row)
        self.assertEqual(task.piece_box(0, 3), formula_box(works.book, row, 0))
        self.assertEqual(task.piece_box(2, 3)[4], ((0, 0, formula_box(works.book, row[1][2], 0)),))
        self.assertEqual(reached(task), [(0,), (2,), (3,)])

    def test_items_of_unlike_widths(self):
        works = works_of(told_font("f", {"a": 5, "b": 9, "=": 3, "+": 7}), wide=2, thin=1)
        task = DisplayTask(works, self.style(24), row_of("ab=a+b=b"))
        # ab= is 19 wide, ab=a+ is 34, a+ is 13, a+b= is 28, b= is 14, b=b is 25.
        for k, after in ((0, [(3,)]), (3, [(5,)]), (5, [(7,)]), (7, [(8,)])):
            self.assertEqual([state for _, state in task.steps((k,))], after)
        task = DisplayTask(works, self.style(25), row_of("ab=a+b=b"))
        self.assertEqual([state for _, state in task.steps((5,))], [(7,), (8,)])
        for measure, after in ((18, []), (19, [(3,)]), (33, [(3,)]), (34, [(3,), (5,)])):
            self.assertEqual([state for _, state in DisplayTask(works, self.style(measure), row_of("ab=a+b=b")).steps((0,))], after)

    def test_the_size_is_0(self):
        works = works_of(told_font("f", {"a": 5, "=": 3}), told_font("g", {"b": 9, "=": 30}), smaller="g", wide=2)
        sized = ("script", ("sign", "a"), ("sign", "b"), None)
        row = ("row", (("sign", "a"), ("sign", "="), sized))
        self.assertEqual(DisplayTask(works, self.style(100), row).piece_box(0, 3), formula_box(works.book, row, 0))
        self.assertEqual(set_display(works, self.style(100), row, 1).ends, (3,))
        self.refused(NoSign("b", 1), set_display, works, self.style(100), row_of("ab"), 1)

    def test_the_measures_of_size_0(self):
        sizes = tuple(told(SIZE, wide=wide, thin=thin) for wide, thin in ((7, 5), (11, 13), (11, 13)))
        works = StandIn(Book((told_font("f", {"a": 2, "=": 2, "+": 2}),), sizes))
        task = DisplayTask(works, self.style(100), row_of("a+a=a"))
        self.assertEqual([part[0] for part in task.piece_box(0, 5)[4]], [0, 7, 14, 23, 32])
        self.assertEqual([state for _, state in DisplayTask(works, self.style(34), row_of("a+a=a")).steps((0,))], [(2,), (4,), (5,)])
        self.assertEqual([state for _, state in DisplayTask(works, self.style(33), row_of("a+a=a")).steps((0,))], [(2,), (4,)])

    def test_the_rooms(self):
        # a+ is 9 wide, b= 11, c 4; the whole row is 28.
        for measure, indent, first, second in (
            (28, 0, [2, 4, 5], [4, 5]), (27, 0, [2, 4], [4, 5]), (20, 0, [2], [4, 5]), (21, 0, [2, 4], [4, 5]), (9, 0, [2], []),
            (8, 0, [], []), (28, 10, [2, 4, 5], [4, 5]), (28, 11, [2, 4, 5], [4]), (28, 17, [2, 4, 5], [4]), (28, 18, [2, 4, 5], []),
            (18, 0, [2], [4, 5]), (17, 0, [2], [4]), (11, 0, [2], [4]), (10, 0, [2], []),
        ):
            task = self.task("a+b=c", measure, indent=indent)
            with self.subTest((measure, indent)):
                self.assertEqual([after for _, after in task.steps((0,))], [(k,) for k in first])
                self.assertEqual([after for _, after in task.steps((2,))], [(k,) for k in second])

    def test_costs(self):
        task = self.task("a+b=c", 33)
        # The slacks are 24, 12 and the end's.
        self.assertEqual(self.answer(task.steps, (0,)), [(110 * 110 + 400, (2,)), (22 * 22, (4,)), (100, (5,))])
        task = self.task("a+b=c", 28, indent=2)
        self.assertEqual(self.answer(task.steps, (0,)), [((10 + 100 * 19 ** 3 // 24 ** 3) ** 2 + 400, (2,)), ((10 + 100 * 7 ** 3 // 24 ** 3) ** 2, (4,)),
                                                         (100, (5,))])
        self.assertEqual(self.answer(task.steps, (2,)), [((10 + 100 * 15 ** 3 // 24 ** 3) ** 2, (4,)), (100, (5,))])
        self.assertEqual(self.answer(task.steps, (4,)), [(100, (5,))])
        task = self.task("a+b=c", 9 + 24 * 6)
        self.assertEqual(task.steps((0,))[0], (10010 ** 2 + 400, (2,)))
        self.assertEqual(task.steps((0,))[1], (10010 ** 2, (4,)))
        self.assertEqual(10010 ** 2 + 400, 100200500)

    def test_no_cost_of_an_operator_at_the_end(self):
        # The last item counts as plain, and so does an operator that is the first one.
        self.assertEqual(self.task("a+", 9).steps((0,)), [(100, (2,))])
        self.assertEqual(self.task("a=+", 100).steps((2,)), [(100, (3,))])

    def test_the_same_slack_whatever_the_alignment(self):
        for align in ("full", "left", "right", "centre"):
            self.assertEqual(self.task("a+b=c", 33, align=align).steps((0,)), [(12500, (2,)), (484, (4,)), (100, (5,))])

    def test_by_the_definition(self):
        dice = Dice(71)
        for _ in range(150):
            text = "".join(dice.pick("ab+-=<(),") for _ in range(dice.below(10) + 1))
            style = self.style(6 + dice.below(40), indent=dice.below(6))
            row = row_of(text)
            task = DisplayTask(self.works, style, row)
            kinds = kinds_of(row[1])
            count = len(text)
            states = [k for k in range(1, count) if kinds[k - 1] in ("rel", "oper")] + [count]
            for i in [0] + states[:-1]:
                steps = []
                for j in states:
                    if j > i:
                        boxes = [formula_box(self.works.book, item, 0) for item in row[1]]
                        piece = row_box(self.works.book.math_of(0), boxes[i:j], kinds[i:j])
                        slack = style.measure - (style.indent if i else 0) - piece[1]
                        if slack >= 0:
                            bad = 0 if j == count else min(10000, 100 * slack ** 3 // 24 ** 3)
                            steps.append(((10 + bad) ** 2 + (400 if j < count and kinds[j - 1] == "oper" else 0), (j,)))
                self.assertEqual(self.answer(task.steps, (i,)), steps)
            way, paper = self.answer(solve, task)
            self.assertEqual(togo(task), dict(paper))
            self.assertIs(judge(task, way, paper), True)
            ways = ways_from(task, (0,))
            costs = [plain_cost(task, one) for one in ways]
            self.assertEqual(way, ways[costs.index(min(costs))] if ways else None)
            self.assertEqual(way_cost(task, way), min(costs, default=None))

    def test_long_rows(self):
        text = "a+b=" * 700 + "c"
        task = self.task(text, 100)
        way, paper = solve(task)
        self.assertTrue(judge(task, way, paper))
        self.assertEqual(len(paper), 1402)


class SetTest(DisplayCase):

    def set(self, text, measure, **changes):
        found = self.answer(set_display, self.works, self.style(measure, **changes), row_of(text), 3)
        self.assertIsInstance(found, Paragraph)
        self.assertEqual([type(part) for part in (found.way, found.paper, found.ends, found.boxes)], [tuple] * 4)
        return found

    def test_one_line_stands_in_the_middle(self):
        for measure, indent, x in ((28, 0, 0), (29, 0, 0), (30, 0, 1), (45, 0, 8), (45, 7, 8), (28, 20, 0)):
            piece = self.works.formula(row_of("a+b=c"))
            found = self.set("a+b=c", measure, indent=indent)
            self.assertEqual((found.way, found.ends), (((0,), (5,)), (5,)))
            self.assertEqual(found.boxes, (("line", measure, 6, 2, ((x, 0, piece),)),))
            self.assertEqual(dict(found.paper)[0,], 100)

    def test_several_lines(self):
        for indent in (0, 1, 2):
            found = self.set("a=b=c", 22 + indent, indent=indent)
            # a= is 11 wide, a=b= is 25, and b=c is 18.
            task = self.task("a=b=c", 22 + indent, indent=indent)
            way, paper = solve(task)
            self.assertEqual((found.way, found.paper), (way, paper))
            self.assertEqual((found.way, found.ends), (((0,), (2,), (5,)), (2, 5)))
            self.assertEqual(found.boxes, (
                ("line", 22 + indent, 6, 2, ((0, 0, task.piece_box(0, 2)),)),
                ("line", 22 + indent, 6, 2, ((indent, 0, task.piece_box(2, 5)),))))
            self.assertIs(judge(task, found.way, found.paper), True)

    def test_three_lines(self):
        found = self.set("aa=bb=cc", 17, indent=2)
        task = self.task("aa=bb=cc", 17, indent=2)
        self.assertEqual(found.ends, (3, 6, 8))
        self.assertEqual([box[4] for box in found.boxes], [
            ((0, 0, task.piece_box(0, 3)),), ((2, 0, task.piece_box(3, 6)),), ((2, 0, task.piece_box(6, 8)),)])

    def test_heights_and_depths(self):
        for text, h, d in (("a", 6, 2), ("ad", 9, 5), ("d=a", 9, 5)):
            self.assertEqual([box[2:4] for box in self.set(text, 100).boxes], [(h, d)])
        self.assertEqual([box[2:4] for box in self.set("a=d", 11).boxes], [(6, 2), (9, 5)])

    def test_no_sign(self):
        for text, letter in (("q", "q"), ("aq!", "q"), ("a=!q", "!"), ("f", "f")):
            self.refused(NoSign(letter, 8), set_display, self.works, self.style(100), row_of(text), 8)
            self.refused(NoSign(letter, 8), set_display, self.works, self.style(1), row_of(text), 8)
        tokens = tokenize("a=\\over{a}{b^?}!")
        row = read_formula(tokens, 0, len(tokens))
        self.refused(NoSign("?", 5), set_display, self.works, self.style(100), row, 5)

    def test_too_wide(self):
        for text, measure, indent in (("a", 4, 0), ("aaa", 12, 0), ("a=", 11, 0), ("a=b", 11, 0), ("aa+b", 13, 0), ("a=bb", 14, 6)):
            self.assertEqual(self.set(text, measure, indent=indent).ends[-1], len(text))
            self.refused(TooWide(4), set_display, self.works, self.style(measure - 1, indent=indent), row_of(text), 4)
        self.refused(TooWide(2), set_display, self.works, self.style(11, indent=8), row_of("a=b"), 2)
        self.refused(TooWide(2), set_display, self.works, self.style(20), row_of("a=bbbbbb=a"), 2)

    def test_the_first_of_several_ways(self):
        # The cheapest way, not the one with the fewest lines.
        found = self.set("a+b=c=a", 40, indent=0)
        task = self.task("a+b=c=a", 40, indent=0)
        ways = ways_from(task, (0,))
        self.assertEqual(way_cost(task, found.way), min(plain_cost(task, way) for way in ways))


if __name__ == "__main__":
    unittest.main()
