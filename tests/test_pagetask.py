"""The pages' task: [44] and [45], with [26] and [27]."""

import copy
import unittest

from galleywork.badness import badness
from galleywork.glue import Glue
from galleywork.judging import judge
from galleywork.pagetask import PageTask
from galleywork.units import MUST
from galleywork.ways import Task, reached, solve, togo, way_cost
from helper import Case, Dice, plain_cost, ways_from

UNITS = [(2, (0, 0, 0), 0), (2, (0, 1, 0), 150), (2, (0, 1, 0), 150), (2, (1, 2, 1), 0), (2, (0, 1, 0), 150), (2, (1, 2, 1), 0)]
PLAIN = (5, (0, 0, 0), 0)
GREAT = 10 ** 50


def plain_glue(units, floats, lines, a, b, rule, float_gap):
    """The glue of a page, by the words of [44]."""
    held = units[a[0]:b[0]]
    natural = sum(unit[0] for unit in held) + sum(one[0] + float_gap for one in floats[a[1]:b[1]])
    if b[2] > a[2]:
        natural += rule + sum(line[0] for line in lines[a[2]:b[2]])
    sums = [sum(unit[1][k] for unit in held[1:]) for k in range(3)]
    return (natural + sums[0], sums[1], sums[2])


def page_price(units, floats, lines, a, b, height, floats_a_page=1, rule=1, float_gap=1):
    """The cost of a page or None, by the words of [45]."""
    n = len(units)
    if any(two < one for one, two in zip(a, b)) or a == b:
        return None
    if b[1] - a[1] > floats_a_page:
        return None

    def due(thing):
        return thing[-1] >= n - b[0]

    if not all(map(due, floats[a[1]:b[1]])) or not all(map(due, lines[a[2]:b[2]])):
        return None
    if any(unit[2] == MUST for unit in units[a[0] + 1:b[0]]):
        return None
    natural, stretch, shrink = plain_glue(units, floats, lines, a, b, rule, float_gap)
    if natural - shrink > height:
        return None
    loose = b == (n, len(floats), len(lines)) or b[0] < n and units[b[0]][2] == MUST
    if natural > height:
        bad = badness(natural - height, shrink)
    else:
        bad = 0 if loose else badness(height - natural, stretch)
    price = (10 + bad) ** 2
    if b[0] > a[0] and b[0] < n and units[b[0]][2] != MUST:
        price += units[b[0]][2] ** 2
    price += 5000 * sum(map(due, floats[b[1]:]))
    waiting = list(filter(due, lines[b[2]:]))
    if waiting:
        price += 2000 + 100 * len(waiting) + 10 ** 9 * sum(line[1] for line in waiting)
    return price + 4000 if b[0] == a[0] else price


def all_states(units, floats, lines):
    return [(b, f, s) for b in range(len(units) + 1) for f in range(len(floats) + 1) for s in range(len(lines) + 1)]


def random_told(dice, most=4):
    """Random told tuples of units, floats and note lines, with numbers behind that do not rise."""
    units = []
    for _ in range(dice.below(most + 1)):
        natural = dice.below(4)
        units.append((dice.below(6), (natural, dice.below(3), dice.below(natural + 1)), dice.pick((0, 0, 150, 30, 30000, MUST))))
    floats = [(dice.below(7), behind) for behind in sorted((dice.below(len(units) + 2) for _ in range(dice.below(3))), reverse=True)]
    lines = [(dice.below(4), not dice.below(2), behind)
             for behind in sorted((dice.below(len(units) + 2) for _ in range(dice.below(4))), reverse=True)]
    return units, floats, lines


class FieldTest(Case):

    def test_fields(self):
        for kind in (list, tuple):
            task = PageTask(kind(UNITS), kind([(3, 4)]), kind([(1, True, 2), (1, False, 2)]), height=9)
            self.assertIsInstance(task, Task)
            self.assertEqual((task.units, task.floats, task.lines), (tuple(UNITS), ((3, 4),), ((1, True, 2), (1, False, 2))))
            self.assertEqual([type(row) for row in (task.units, task.floats, task.lines)], [tuple] * 3)

    def test_what_is_handed_in_may_change(self):
        units, floats, lines = list(UNITS), [(3, 4)], [(1, True, 2)]
        task = PageTask(units, floats, lines, height=9)
        before = solve(task)
        for row in (units, floats, lines):
            row.clear()
        self.assertEqual(solve(task), before)
        self.assertEqual(task.units, tuple(UNITS))

    def test_default_values(self):
        units, floats, lines = [PLAIN] * 3, [(2, 3), (2, 3)], [(1, True, 3)]
        one = PageTask(units, floats, lines, height=11)
        two = PageTask(units, floats, lines, height=11, floats_a_page=1, rule=1, float_gap=1)
        self.assertEqual(solve(one), solve(two))
        self.assertEqual([one.page_glue((0, 0, 0), b).natural for b in ((0, 1, 0), (0, 0, 1), (0, 2, 0))], [3, 2, 6])

    def test_the_methods_of_a_task(self):
        task = PageTask(UNITS, [(3, 4)], [(1, True, 2), (1, False, 2)], height=9)
        self.assertEqual(self.answer(task.first), (0, 0, 0))
        ends = [state for state in all_states(task.units, task.floats, task.lines) if task.is_end(state)]
        self.assertEqual(ends, [(6, 1, 2)])
        self.assertEqual([task.rank(state) for state in ((0, 0, 0), (2, 1, 0), (5, 1, 1), (6, 1, 2))], [0, 3, 7, 9])
        self.assertEqual(self.answer(task.steps, (6, 1, 2)), [])


class ExampleTest(Case):

    def setUp(self):
        self.task = PageTask(UNITS, [(3, 4)], [(1, True, 2), (1, False, 2)], height=9)

    def test_example(self):
        way, paper = self.answer(solve, self.task)
        self.assertEqual(way, ((0, 0, 0), (2, 1, 0), (5, 1, 1), (6, 1, 2)))
        self.assertEqual(paper[0], ((0, 0, 0), 36900))
        self.assertEqual([self.answer(self.task.page_cost, a, b) for a, b in zip(way, way[1:])], [34600, 2200, 100])
        self.assertEqual([self.answer(self.task.page_glue, a, b).plain() for a, b in zip(way, way[1:])], [(8, 1, 0), (9, 3, 1), (4, 0, 0)])
        self.assertEqual(way_cost(self.task, way), 36900)

    def test_the_judge(self):
        way, paper = solve(self.task)
        self.assertIs(judge(self.task, way, paper), True)
        self.assertIs(judge(self.task, list(way), list(paper)), True)
        for k, (state, number) in enumerate(paper):
            if number is not None:
                bent = paper[:k] + ((state, number + 1),) + paper[k + 1:]
                self.assertIs(judge(self.task, way, bent), False)
            if state in way:
                self.assertIs(judge(self.task, way, paper[:k] + ((state, None),) + paper[k + 1:]), False)
                self.assertIs(judge(self.task, way, paper[:k] + paper[k + 1:]), False)
        for bent in (None, (), way[:-1], way[1:], way[:1] + way[2:], way + way[-1:], ((0, 0, 0), (6, 1, 2)), way[:2] + ((4, 1, 0),) + way[3:]):
            self.assertIs(judge(self.task, bent, paper), False)

    def test_states_that_are_no_triples_of_the_task(self):
        way, paper = solve(self.task)
        for state in ((7, 0, 0), (0, 2, 0), (0, 0, 3), (-1, 0, 0), (0, -1, 0), (0, 0, -1), (9, 9, 9), (6, 1, 3), (6, 2, 2), (10 ** 30, 0, 0)):
            with self.subTest(state):
                self.assertIs(judge(self.task, way, tuple(sorted(paper + ((state, None),)))), False)
                self.assertIs(judge(self.task, way, tuple(sorted(paper + ((state, 0),)))), False)
                self.assertIsNone(way_cost(self.task, (way[0], state, way[-1])))
                self.assertIsNone(way_cost(self.task, way + (state,)))
                self.assertIsNone(way_cost(self.task, (state,) + way))

    def test_states_that_are_not_reached(self):
        way, paper = solve(self.task)
        known = [state for state, _ in paper]
        others = [state for state in all_states(self.task.units, self.task.floats, self.task.lines) if state not in known]
        self.assertIn((0, 1, 0), others)
        steps = self.task.steps((0, 1, 0))
        least = min(cost + dict(paper)[after] for cost, after in steps if after in known)
        if all(after in known for _, after in steps):
            self.assertIs(judge(self.task, way, tuple(sorted(paper + (((0, 1, 0), least),)))), True)
            self.assertIs(judge(self.task, way, tuple(sorted(paper + (((0, 1, 0), least + 1),)))), False)


class GlueTest(Case):

    def test_glue(self):
        units = [(5, (9, 9, 9), 0), (6, (1, 2, 1), 0), (7, (3, 4, 2), 0)]
        task = PageTask(units, [(10, 9), (20, 9)], [(100, True, 9), (200, False, 9)], height=1, rule=3, float_gap=2)
        for a, b, glue in (
            ((0, 0, 0), (0, 0, 0), (0, 0, 0)), ((0, 0, 0), (1, 0, 0), (5, 0, 0)), ((0, 0, 0), (2, 0, 0), (12, 2, 1)), ((0, 0, 0), (3, 0, 0), (22, 6, 3)),
            ((1, 0, 0), (3, 0, 0), (16, 4, 2)), ((2, 0, 0), (3, 0, 0), (7, 0, 0)), ((3, 0, 0), (3, 0, 0), (0, 0, 0)), ((0, 0, 0), (0, 1, 0), (12, 0, 0)),
            ((0, 0, 0), (0, 2, 0), (34, 0, 0)), ((0, 1, 0), (0, 2, 0), (22, 0, 0)), ((0, 0, 0), (0, 0, 1), (103, 0, 0)), ((0, 0, 0), (0, 0, 2), (303, 0, 0)),
            ((0, 0, 1), (0, 0, 2), (203, 0, 0)), ((0, 0, 2), (0, 0, 2), (0, 0, 0)), ((1, 1, 1), (3, 2, 2), (16 + 22 + 203, 4, 2)), ((0, 0, 0), (3, 2, 2), (22 + 34 + 303, 6, 3)),
        ):
            found = self.answer(task.page_glue, a, b)
            self.assertIsInstance(found, Glue)
            self.assertEqual(found.plain(), glue)

    def test_note_lines_without_height(self):
        task = PageTask([], [], [(0, True, 0), (0, False, 0)], height=5, rule=4)
        self.assertEqual(task.page_glue((0, 0, 0), (0, 0, 1)).plain(), (4, 0, 0))


class LooseTest(Case):

    def test_loose(self):
        units = [(5, (0, 0, 0), MUST), PLAIN, (5, (0, 0, 0), MUST), PLAIN]
        task = PageTask(units, [(1, 0)], [(1, True, 0)], height=30)
        for state in all_states(task.units, task.floats, task.lines):
            self.assertIs(self.answer(task.loose, state), state[0] in (0, 2) or state == (4, 1, 1))
        self.assertIs(PageTask([], [], [], height=1).loose((0, 0, 0)), True)
        self.assertIs(PageTask([], [(1, 0)], [], height=1).loose((0, 0, 0)), False)


class DueTest(Case):

    def test_floats(self):
        # The first has 2 units behind it, the second 1, the third none.
        floats = [(1, 2), (1, 1), (1, 0)]
        task = PageTask([PLAIN] * 3, floats, [], height=100, floats_a_page=9)
        for b, due in ((0, 0), (1, 1), (2, 2), (3, 3)):
            found = [f for f in range(1, 4) if task.page_cost((0, 0, 0), (b, f, 0)) is not None]
            self.assertEqual(found, list(range(1, due + 1)))
            costs = [task.page_cost((0, 0, 0), (b, f, 0)) for f in range(due + 1) if b]
            base = badness(100 - 5 * b, 0)
            self.assertEqual(len(costs), due + 1 if b else 0)
            if b and b < 3:
                self.assertEqual(costs[-1], (10 + base) ** 2)
                self.assertEqual(costs[0], (10 + base) ** 2 + 5000 * due)

    def test_note_lines(self):
        lines = [(1, True, 2), (1, False, 2), (1, True, 1)]
        task = PageTask([PLAIN] * 3, [], lines, height=100)
        for b, due in ((0, 0), (1, 2), (2, 3), (3, 3)):
            found = [s for s in range(1, 4) if task.page_cost((0, 0, 0), (b, 0, s)) is not None]
            self.assertEqual(found, list(range(1, due + 1)))

    def test_behind_more_than_there_is(self):
        task = PageTask([PLAIN], [(1, 5)], [(1, True, GREAT)], height=100)
        self.assertEqual([after for _, after in task.steps((0, 0, 0))],
                         [(0, 0, 1), (0, 1, 0), (0, 1, 1), (1, 0, 0), (1, 0, 1), (1, 1, 0), (1, 1, 1)])


class PageTest(Case):

    def cost(self, units, a, b, floats=(), lines=(), **changes):
        task = PageTask(units, floats, lines, **{"height": 20, **changes})
        found = self.answer(task.page_cost, a, b)
        self.assertEqual(found, page_price(list(units), list(floats), list(lines), a, b, **{"height": 20, **changes}))
        return found

    def test_back_and_nowhere(self):
        units, floats, lines = [PLAIN] * 2, [(2, 9), (2, 9)], [(1, True, 9), (1, False, 9)]
        for a, b in (((1, 1, 1), (1, 1, 1)), ((1, 1, 1), (0, 1, 1)), ((1, 1, 1), (2, 0, 1)), ((1, 1, 1), (2, 2, 0)), ((1, 1, 1), (0, 2, 2)),
                     ((0, 0, 0), (0, 0, 0)), ((2, 2, 2), (2, 2, 2)), ((2, 2, 2), (0, 0, 0))):
            self.assertIsNone(self.cost(units, a, b, floats, lines))
        self.assertIsNotNone(self.cost(units, (1, 1, 1), (2, 1, 1), floats, lines))

    def test_too_many_floats(self):
        floats = [(1, 9)] * 4
        for most in (0, 1, 2, 3, 9):
            for f in range(1, 5):
                self.assertEqual(self.cost([PLAIN], (0, 0, 0), (1, f, 0), floats, floats_a_page=most) is not None, f <= most)
                self.assertEqual(self.cost([PLAIN], (1, 0, 0), (1, f, 0), floats, floats_a_page=most) is not None, f <= most)

    def test_what_is_not_due(self):
        units = [PLAIN] * 3
        for b in (1, 2, 3):
            for behind in (0, 1, 2, 3):
                due = behind >= 3 - b
                self.assertEqual(self.cost(units, (0, 0, 0), (b, 1, 0), [(1, behind)]) is not None, due)
                self.assertEqual(self.cost(units, (0, 0, 0), (b, 0, 1), (), [(1, True, behind)]) is not None, due)
                self.assertEqual(self.cost(units, (0, 0, 0), (b, 1, 1), [(1, behind)], [(1, True, 3)]) is not None, due)
                self.assertEqual(self.cost(units, (0, 0, 0), (b, 1, 1), [(1, 3)], [(1, True, behind)]) is not None, due)
                # What is set already need not be due.
                self.assertIsNotNone(self.cost(units, (0, 1, 1), (b, 1, 1), [(1, behind)], [(1, True, behind)]))

    def test_units_that_must_begin_a_page(self):
        must = (5, (0, 0, 0), MUST)
        for units, a, b, found in (
            ([must, PLAIN], 0, 1, True), ([must, PLAIN], 0, 2, True), ([PLAIN, must], 0, 1, True), ([PLAIN, must], 0, 2, False),
            ([PLAIN, must], 1, 2, True), ([PLAIN, must, PLAIN], 0, 3, False), ([PLAIN, must, PLAIN], 1, 3, True), ([PLAIN, PLAIN, must], 0, 2, True),
            ([must, must], 0, 1, True), ([must, must], 0, 2, False),
        ):
            self.assertEqual(self.cost(units, (a, 0, 0), (b, 0, 0)) is not None, found)
        # A page without units may stand ahead of it.
        self.assertIsNotNone(self.cost([must], (0, 0, 0), (0, 1, 0), [(1, 9)]))

    def test_the_least_length(self):
        for shrink, height, found in ((0, 12, True), (0, 11, False), (1, 11, True), (1, 10, False), (2, 10, True)):
            self.assertEqual(self.cost([PLAIN, (5, (2, 9, shrink), 0)], (0, 0, 0), (2, 0, 0), height=height) is not None, found)
        # The gap of the first unit is left out.
        self.assertIsNotNone(self.cost([(5, (2, 0, 0), 0)], (0, 0, 0), (1, 0, 0), height=5))
        self.assertIsNone(self.cost([(5, (2, 0, 2), 0)], (0, 0, 0), (1, 0, 0), height=4))
        for height, found in ((8, True), (7, False)):
            self.assertEqual(self.cost([PLAIN], (0, 0, 0), (1, 1, 0), [(1, 0)], height=height, float_gap=2) is not None, found)
            self.assertEqual(self.cost([PLAIN], (0, 0, 0), (1, 0, 1), (), [(1, True, 0)], height=height, rule=2) is not None, found)

    def test_the_badness_around_the_height(self):
        units = [PLAIN, (5, (2, 3, 2), 0), PLAIN, (5, (0, 0, 0), MUST)]
        # Two units are 12 high, with a stretch of 3 and a shrink of 2.
        for height, bad in ((12, 0), (13, 3), (14, 29), (15, 100), (100, 10000), (11, 12), (10, 100)):
            self.assertEqual(self.cost(units, (0, 0, 0), (2, 0, 0), height=height), (10 + bad) ** 2)
        # Three are 17 high. The page behind has to begin anew, so nothing is stretched.
        for height, bad in ((17, 0), (18, 0), (100, 0), (GREAT, 0), (16, 12), (15, 100)):
            self.assertEqual(self.cost(units, (0, 0, 0), (3, 0, 0), height=height), (10 + bad) ** 2)
        # The end is loose, too.
        for height, bad in ((10, 0), (11, 0), (50, 0)):
            self.assertEqual(self.cost([PLAIN] * 2, (0, 0, 0), (2, 0, 0), height=height), (10 + bad) ** 2)
        # All units are set, but a float is left.
        self.assertEqual(self.cost([PLAIN] * 2, (0, 0, 0), (2, 0, 0), [(3, 0)], height=11), 10010 ** 2 + 5000)
        self.assertEqual(self.cost([PLAIN] * 2, (0, 0, 0), (2, 0, 0), [(3, 0)], height=10), 100 + 5000)

    def test_the_cost_of_the_next_unit(self):
        for cost in (0, 1, 30, 150, 30000, GREAT):
            self.assertEqual(self.cost([PLAIN, (5, (0, 0, 0), cost)], (0, 0, 0), (1, 0, 0), height=5), 100 + cost * cost)
            # None behind the last unit, and none for the unit itself.
            self.assertEqual(self.cost([PLAIN, (5, (0, 0, 0), cost)], (1, 0, 0), (2, 0, 0), height=5), 100)
            # None for a page without units.
            self.assertEqual(self.cost([PLAIN, (5, (0, 0, 0), cost)], (1, 0, 0), (1, 1, 0), [(4, 9)], height=5), 100 + 4000)
        self.assertEqual(self.cost([PLAIN, (5, (0, 0, 0), MUST)], (0, 0, 0), (1, 0, 0), height=5), 100)

    def test_floats_that_wait(self):
        floats = [(4, 9), (4, 1), (4, 0)]
        for f, costs in ((0, (10000, 10000, 15000)), (1, (5000, 5000, 10000)), (2, (0, 0, 5000)), (3, (0, 0, 0))):
            units = [(5, (0, 0, 0), 0), (5, (0, 0, 0), 0)]
            self.assertEqual(self.cost(units, (0, f, 0), (1, f, 0), floats, height=5), 100 + costs[0])
            self.assertEqual(self.cost(units, (1, f, 0), (2, f, 0), floats, height=5), 100 + costs[2])
        self.assertEqual(self.cost([PLAIN], (0, 0, 0), (0, 1, 0), [(4, 1), (4, 1)], height=5), 100 + 5000 + 4000)

    def test_note_lines_that_wait(self):
        lines = [(1, True, 1), (1, False, 1), (1, False, 1), (1, True, 1), (1, True, 0)]
        for s, cost in ((0, 2000 + 400 + 2 * 10 ** 9), (1, 2000 + 300 + 10 ** 9), (2, 2000 + 200 + 10 ** 9), (3, 2000 + 100 + 10 ** 9), (4, 0), (5, 0)):
            self.assertEqual(self.cost([PLAIN] * 2, (0, 0, s), (1, 0, s), (), lines, height=5), 100 + cost)
        self.assertEqual(self.cost([PLAIN] * 2, (1, 0, 4), (2, 0, 4), (), lines, height=5), 100 + 2100 + 10 ** 9)
        # A line that does not open its note.
        self.assertEqual(self.cost([PLAIN], (0, 0, 1), (1, 0, 1), (), [(1, True, 0), (1, False, 0)], height=5), 100 + 2100)

    def test_pages_without_units(self):
        self.assertEqual(self.cost([], (0, 0, 0), (0, 1, 0), [(4, 0)], height=5), 100 + 4000)
        self.assertEqual(self.cost([], (0, 0, 0), (0, 0, 1), (), [(4, True, 0)], height=5), 100 + 4000)
        self.assertEqual(self.cost([], (0, 0, 0), (0, 0, 1), (), [(4, True, 0), (4, False, 0)], height=5), 100 + 4000 + 2100)
        self.assertEqual(self.cost([], (0, 0, 0), (0, 1, 1), [(4, 0)], [(4, True, 0)], height=12), 100 + 4000)

    def test_all_together(self):
        units = [PLAIN, (5, (2, 1, 1), 150), (5, (2, 1, 1), 30)]
        floats = [(4, 2), (4, 2), (4, 0)]
        lines = [(1, True, 2), (1, False, 2), (1, True, 1)]
        # Two units, a float and a line: 12 + 5 + 2 = 19, one less than the page.
        self.assertEqual(self.cost(units, (0, 0, 0), (2, 1, 1), floats, lines), 110 ** 2 + 900 + 5000 + 2000 + 200 + 10 ** 9)
        self.assertEqual(self.cost(units, (0, 0, 0), (2, 1, 1), floats, lines, height=18), 110 ** 2 + 900 + 5000 + 2000 + 200 + 10 ** 9)
        self.assertEqual(self.cost(units, (1, 0, 0), (1, 1, 1), floats, lines, height=7), 100 + 4000 + 5000 + 2000 + 100)

    def test_great_numbers(self):
        unit = (GREAT, (GREAT, GREAT, GREAT), GREAT)
        self.assertEqual(self.cost([unit] * 3, (0, 0, 0), (2, 0, 0), height=2 * GREAT), 110 ** 2 + GREAT ** 2)
        self.assertEqual(self.cost([unit] * 3, (0, 0, 0), (2, 0, 0), height=3 * GREAT), 100 + GREAT ** 2)
        self.assertEqual(self.cost([unit] * 3, (0, 0, 0), (2, 0, 0), height=4 * GREAT), 110 ** 2 + GREAT ** 2)
        self.assertIsNone(self.cost([unit] * 3, (0, 0, 0), (2, 0, 0), height=2 * GREAT - 1))
        self.assertEqual(self.cost([unit], (0, 0, 0), (1, 1, 1), [(GREAT, GREAT)], [(GREAT, True, 0)], height=9 * GREAT, rule=GREAT, float_gap=GREAT), 100)
        task = PageTask([unit] * 4, [(GREAT, 2)], [(GREAT, True, 1)], height=5 * GREAT, rule=GREAT, float_gap=GREAT)
        way, paper = solve(task)
        self.assertIs(judge(task, way, paper), True)

    def test_by_the_words_of_the_document(self):
        dice = Dice(45)
        for _ in range(60):
            units, floats, lines = random_told(dice)
            changes = {"height": 3 + dice.below(20), "floats_a_page": dice.below(3), "rule": dice.below(3), "float_gap": dice.below(3)}
            task = PageTask(units, floats, lines, **changes)
            states = all_states(units, floats, lines)
            for a in states:
                steps = []
                for b in states:
                    price = page_price(units, floats, lines, a, b, **changes)
                    self.assertEqual(task.page_cost(a, b), price)
                    if price is not None:
                        steps.append((price, b))
                    if all(one <= two for one, two in zip(a, b)):
                        self.assertEqual(task.page_glue(a, b).plain(), plain_glue(units, floats, lines, a, b, changes["rule"], changes["float_gap"]))
                # Ascending by the next state, as all_states is.
                self.assertEqual(task.steps(a), steps)


class WayTest(Case):

    def test_steps_are_new(self):
        task = PageTask(UNITS, [(3, 4)], [(1, True, 2)], height=9)
        self.assertEqual([after for _, after in self.answer(task.steps, (1, 0, 0))], sorted(after for _, after in task.steps((1, 0, 0))))

    def test_the_empty_task(self):
        task = PageTask((), (), (), height=1)
        self.assertEqual(self.answer(solve, task), (((0, 0, 0),), (((0, 0, 0), 0),)))
        self.assertIs(judge(task, ((0, 0, 0),), (((0, 0, 0), 0),)), True)

    def test_no_way(self):
        task = PageTask([PLAIN], [(1, 0)], [], height=20, floats_a_page=0)
        way, paper = self.answer(solve, task)
        self.assertEqual((way, paper), (None, (((0, 0, 0), None), ((1, 0, 0), None))))
        self.assertIs(judge(task, None, paper), True)
        self.assertIs(judge(task, None, (((0, 0, 0), 0), ((1, 0, 0), None))), False)
        for changes in ({"height": 4}, {"height": 20, "rule": 20}):
            task = PageTask([PLAIN], [], [(1, True, 0)], **changes)
            way, paper = solve(task)
            self.assertIsNone(way)
            self.assertIs(judge(task, None, paper), True)

    def test_there_is_always_a_way(self):
        dice = Dice(46)
        for _ in range(60):
            units, floats, lines = random_told(dice, 6)
            rule, float_gap = dice.below(3), dice.below(3)
            height = max([1] + [unit[0] for unit in units] + [one[0] + float_gap for one in floats] + [line[0] + rule for line in lines])
            task = PageTask(units, floats, lines, height=height, rule=rule, float_gap=float_gap, floats_a_page=1 + dice.below(2))
            before = copy.deepcopy((task.units, task.floats, task.lines))
            way, paper = self.answer(solve, task)
            self.assertIsNotNone(way)
            self.assertIs(judge(task, way, paper), True)
            self.assertEqual(togo(task), dict(paper))
            self.assertEqual(reached(task), [state for state, _ in paper])
            self.assertEqual((task.units, task.floats, task.lines), before)
            for one, two in zip(way, way[1:]):
                steps = task.steps(one)
                least = min(cost + dict(paper)[after] for cost, after in steps if dict(paper)[after] is not None)
                firsts = [after for cost, after in steps if dict(paper)[after] is not None and cost + dict(paper)[after] == least]
                self.assertEqual(two, firsts[0])

    def test_the_least_of_all_ways(self):
        dice = Dice(47)
        for _ in range(40):
            units, floats, lines = random_told(dice, 3)
            task = PageTask(units, floats[:1], lines[:2], height=4 + dice.below(12))
            ways = ways_from(task, (0, 0, 0))
            costs = [plain_cost(task, way) for way in ways]
            way, paper = solve(task)
            if ways:
                self.assertEqual(way, ways[costs.index(min(costs))])
                self.assertEqual(dict(paper)[0, 0, 0], min(costs))
            else:
                self.assertIsNone(way)

    def test_many_units(self):
        units = [(5, (1, 1, 1), 150 if k % 3 else 0) for k in range(1500)]
        task = PageTask(units, [(9, 700), (9, 20)], [], height=40)
        way, paper = solve(task)
        self.assertIs(judge(task, way, paper), True)
        # One behind the other: each page has one unit.
        task = PageTask([PLAIN] * 2000, [], [], height=6)
        way, paper = solve(task)
        self.assertEqual(way, tuple((k, 0, 0) for k in range(2001)))
        self.assertEqual(paper[0], ((0, 0, 0), 1999 * 10010 ** 2 + 100))


if __name__ == "__main__":
    unittest.main()
