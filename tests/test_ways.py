"""Tasks, ways, togo, the first least way and the paper: [26]."""

import copy
import unittest

from galleywork.errors import BadTask
from galleywork.judging import judge
from galleywork.ways import TableTask, Task, reached, solve, togo, way_cost
from helper import Case, Dice, plain_cost, random_rows, ways_from

EXAMPLE = [[(1, 1), (0, 2), (0, 3)], [(2, 4)], [(3, 4)], [], []]


class GridTask(Task):
    """A task with pairs as states: from (0, 0) one step right or up to the end (size, size)."""

    def __init__(self, size, costs):
        self.size = size
        self.costs = costs

    def first(self):
        return (0, 0)

    def is_end(self, state):
        return state == (self.size, self.size)

    def steps(self, state):
        found = []
        for x, y in ((state[0], state[1] + 1), (state[0] + 1, state[1])):
            if x <= self.size and y <= self.size:
                found.append((self.costs[(x + 7 * y) % len(self.costs)], (x, y)))
        return found

    def rank(self, state):
        return sum(state)


class TableTest(Case):

    def test_methods(self):
        for rows in (EXAMPLE, tuple(tuple(row) for row in EXAMPLE), [tuple(row) for row in EXAMPLE]):
            task = TableTask(rows)
            self.assertIsInstance(task, Task)
            self.assertEqual(self.answer(task.first), 0)
            self.assertEqual([task.is_end(k) for k in range(5)], [False] * 4 + [True])
            self.assertEqual([task.rank(k) for k in range(5)], [0, 1, 2, 3, 4])
            self.assertEqual([self.answer(task.steps, k) for k in range(5)], EXAMPLE)

    def test_a_single_state(self):
        for rows in ([[]], ([],), ((),), [()]):
            task = TableTask(rows)
            self.assertEqual((task.first(), task.is_end(0), task.steps(0), task.rank(0)), (0, True, [], 0))
            self.assertEqual(self.answer(reached, task), [0])
            self.assertEqual(self.answer(togo, task), {0: 0})
            self.assertEqual(self.answer(solve, task), ((0,), ((0, 0),)))

    def test_the_task_copies_the_rows(self):
        rows = copy.deepcopy(EXAMPLE)
        task = TableTask(rows)
        rows[0].append((0, 4))
        rows[1].clear()
        rows.pop()
        self.assertEqual([task.steps(k) for k in range(5)], EXAMPLE)
        self.assertTrue(task.is_end(4))
        task.steps(0).clear()
        self.assertEqual(task.steps(0), EXAMPLE[0])
        self.assertEqual(solve(task)[0], (0, 1, 4))

    def test_the_steps_keep_their_order(self):
        row = [(5, 2), (1, 1), (5, 2), (0, 1), (3, 2)]
        self.assertEqual(TableTask([row, [], []]).steps(0), row)

    def test_great_costs(self):
        row = [(10 ** 400, 1), (0, 1)]
        self.assertEqual(TableTask([row, []]).steps(0), row)


class RefusalTest(Case):

    def test_rows(self):
        for state, rows in (
            (0, []), (0, ()),
            (0, [[(1, 0)]]), (0, [[(1, 1)]]), (0, [[(0, -1)]]),
            (0, [[(1, 0)], []]), (0, [[(1, 2)], []]), (0, [[(-1, 1)], []]), (0, [[(0, -1)], []]),
            (1, [[(1, 1)], [(1, 1)]]), (1, [[(1, 1)], [(1, 0)]]), (1, [[(1, 1)], [(1, 2)]]),
            (1, [[(1, 1)], [(2, 1)], []]), (1, [[(1, 1)], [(2, 0)], []]), (1, [[], [(2, 3)], []]),
            (1, [[(1, 1), (1, 2)], [(0, 2), (-5, 2)], []]),
            (0, [[(1, 1), (1, 3)], [(1, 1)], []]), (0, [[(1, 2), (-1, 1)], [(1, 1)], [(1, 2)]]),
            (2, [[(1, 1)], [(1, 2)], [(1, 3)]]), (2, [[(1, 1)], [(1, 2)], [(0, 2)]]),
            (3, [[(1, 3)], [(1, 3)], [], [(1, 4)]]),
            (0, [[(-10 ** 100, 1)], []]), (0, [[(0, 10 ** 100)], []]),
        ):
            with self.subTest(rows):
                self.refused(BadTask(state), TableTask, rows)
                self.refused(BadTask(state), TableTask, tuple(tuple(row) for row in rows))

    def test_what_is_just_right(self):
        for rows in ([[]], [[(0, 1)], []], [[], [], []], [[(0, 2), (0, 2)], [(10 ** 100, 2)], []]):
            self.assertEqual(TableTask(rows).steps(0), list(rows[0]))


class WayTest(Case):

    def test_example(self):
        task = TableTask(EXAMPLE)
        self.assertEqual(self.answer(solve, task), ((0, 1, 4), ((0, 3), (1, 2), (2, 3), (3, None), (4, 0))))
        self.assertEqual(self.answer(togo, task), {0: 3, 1: 2, 2: 3, 3: None, 4: 0})
        self.assertEqual(self.answer(reached, task), [0, 1, 2, 3, 4])

    def test_states_that_nothing_leads_to(self):
        task = TableTask([[(1, 2)], [(0, 2), (0, 3)], [(5, 4)], [(0, 4)], []])
        self.assertEqual(self.answer(reached, task), [0, 2, 4])
        self.assertEqual(self.answer(togo, task), {0: 6, 2: 5, 4: 0})
        self.assertEqual(self.answer(solve, task), ((0, 2, 4), ((0, 6), (2, 5), (4, 0))))

    def test_no_way(self):
        for rows, paper in (
            ([[], []], ((0, None),)),
            ([[(0, 1)], [], []], ((0, None), (1, None))),
            ([[(0, 1), (1, 2)], [(3, 2)], [], []], ((0, None), (1, None), (2, None))),
            ([[(0, 1)], [], [(0, 3)], []], ((0, None), (1, None))),
        ):
            task = TableTask(rows)
            self.assertEqual(self.answer(solve, task), (None, paper))
            self.assertEqual(self.answer(togo, task), dict(paper))
            self.assertEqual(self.answer(reached, task), [state for state, _ in paper])

    def test_dead_ends_are_left_out(self):
        task = TableTask([[(0, 1), (9, 2)], [], [(1, 3)], []])
        self.assertEqual(self.answer(solve, task), ((0, 2, 3), ((0, 10), (1, None), (2, 1), (3, 0))))

    def test_several_steps_to_one_state(self):
        task = TableTask([[(5, 1), (2, 1), (2, 1), (3, 2)], [(4, 2), (1, 2)], []])
        self.assertEqual(self.answer(solve, task), ((0, 1, 2), ((0, 3), (1, 1), (2, 0))))
        self.assertEqual(self.answer(way_cost, task, (0, 1, 2)), 3)
        self.assertEqual(self.answer(way_cost, task, (0, 2)), 3)

    def test_ties(self):
        for first_row, way in (
            ([(1, 1), (1, 2)], (0, 1, 3)), ([(1, 2), (1, 1)], (0, 2, 3)), ([(2, 3), (1, 1), (1, 2)], (0, 3)),
            ([(1, 1), (2, 3), (1, 2)], (0, 1, 3)), ([(1, 2), (2, 3)], (0, 2, 3)), ([(3, 1), (1, 2), (2, 3)], (0, 2, 3)),
            ([(3, 1), (2, 3), (1, 2)], (0, 3)), ([(5, 2), (1, 1), (1, 2)], (0, 1, 3)), ([(5, 1), (1, 2), (1, 1)], (0, 2, 3)),
        ):
            task = TableTask([first_row, [(1, 3)], [(1, 3)], []])
            self.assertEqual(self.answer(solve, task), (way, ((0, 2), *(
                (k, 1) for k in (1, 2) if k in [after for _, after in first_row]), (3, 0))))

    def test_a_tie_behind_the_first_step(self):
        task = TableTask([[(0, 1)], [(0, 3), (0, 2)], [(0, 3)], []])
        self.assertEqual(solve(task)[0], (0, 1, 3))
        task = TableTask([[(0, 1)], [(0, 2), (0, 3)], [(0, 3)], []])
        self.assertEqual(solve(task)[0], (0, 1, 2, 3))

    def test_great_costs(self):
        great = 10 ** 300
        task = TableTask([[(great + 1, 2), (great, 1)], [(2, 2)], []])
        self.assertEqual(self.answer(solve, task), ((0, 2), ((0, great + 1), (1, 2), (2, 0))))
        task = TableTask([[(great + 1, 2), (great, 1)], [(1, 2)], []])
        self.assertEqual(solve(task)[0], (0, 2))
        task = TableTask([[(great, 1), (great + 1, 2)], [(1, 2)], []])
        self.assertEqual(solve(task)[0], (0, 1, 2))
        self.assertEqual(way_cost(task, (0, 1, 2)), great + 1)

    def test_long_tasks(self):
        count = 5000
        rows = [[(k % 7, k + 1)] + [(6, k + 2)] * (k + 2 < count) for k in range(count - 1)] + [[]]
        task = TableTask(rows)
        way, paper = solve(task)
        self.assertEqual(reached(task), list(range(count)))
        self.assertEqual([state for state, _ in paper], list(range(count)))
        self.assertEqual(way_cost(task, way), paper[0][1])
        self.assertEqual(togo(task), dict(paper))
        self.assertTrue(judge(task, way, paper))
        chain = TableTask([[(1, k + 1)] for k in range(count)] + [[]])
        self.assertEqual(solve(chain), (tuple(range(count + 1)), tuple((k, count - k) for k in range(count + 1))))
        broken = TableTask([[(1, k + 1)] for k in range(count)] + [[], []])
        self.assertEqual(solve(broken), (None, tuple((k, None) for k in range(count + 1))))

    def test_by_the_definition(self):
        dice = Dice(1)
        for _ in range(300):
            task = TableTask(random_rows(dice, dice.below(7) + 1, (0, 1, 1, 2, 5)))
            ways = ways_from(task, 0)
            costs = [plain_cost(task, way) for way in ways]
            way, paper = self.answer(solve, task)
            self.assertEqual(dict(paper), {
                state: min([plain_cost(task, one) for one in ways_from(task, state)], default=None)
                for state in reached(task)})
            if ways:
                # Among the ways of least cost the steps that stand first in their lists win, one after the other.
                self.assertEqual(way, ways[costs.index(min(costs))])
            else:
                self.assertIsNone(way)
            for one, cost in zip(ways, costs):
                self.assertEqual(way_cost(task, one), cost)

    def test_reached_by_the_definition(self):
        dice = Dice(9)
        for _ in range(200):
            rows = random_rows(dice, dice.below(9) + 1, (0, 1), 3)
            known = {0}
            for k, row in enumerate(rows):
                if k in known:
                    known.update(after for _, after in row)
            self.assertEqual(reached(TableTask(rows)), sorted(known))

    def test_states_that_are_tuples(self):
        for size in (0, 1, 3, 4):
            for costs in ((0,), (1, 2), (3, 1, 4, 1, 5, 9, 2, 6)):
                task = GridTask(size, costs)
                ways = ways_from(task, (0, 0))
                prices = [plain_cost(task, way) for way in ways]
                way, paper = self.answer(solve, task)
                self.assertEqual(way, ways[prices.index(min(prices))])
                self.assertEqual([state for state, _ in paper], [(x, y) for x in range(size + 1) for y in range(size + 1)])
                self.assertEqual(self.answer(reached, task), [state for state, _ in paper])
                self.assertEqual(self.answer(togo, task), dict(paper))
                self.assertEqual(self.answer(way_cost, task, way), min(prices))
                self.assertIs(judge(task, way, paper), True)

    def test_the_kinds_of_values(self):
        way, paper = solve(TableTask(EXAMPLE))
        self.assertIs(type(way), tuple)
        self.assertIs(type(paper), tuple)
        self.assertEqual({type(pair) for pair in paper}, {tuple})


class CostTest(Case):

    def setUp(self):
        self.task = TableTask([[(1, 1), (0, 2), (9, 4)], [(2, 4), (1, 2)], [(3, 4)], [(0, 4)], []])

    def test_ways(self):
        for way, cost in (((0, 4), 9), ((0, 1, 4), 3), ((0, 2, 4), 3), ((0, 1, 2, 4), 5)):
            self.assertEqual(self.answer(way_cost, self.task, way), cost)
            self.assertEqual(self.answer(way_cost, self.task, list(way)), cost)

    def test_what_is_no_way(self):
        for way in (
            None, (), [], (4,), (0,), (1, 4), (2, 4), (3, 4), (0, 1), (0, 1, 2), (0, 3, 4), (0, 0, 4), (0, 4, 4),
            (0, 1, 1, 4), (0, 1, 4, 4), (0, 4, 0), (0, 2, 1, 4), (4, 0), (4, 1, 0), (0, 5), (0, 1, 5), (0, 5, 4), (-1, 4),
            (0, -1), (0, 1, -1, 4), (7,), (10 ** 50,), (0, 10 ** 50), (0, 2, 3, 4), (0, 4, 5),
        ):
            with self.subTest(way):
                self.assertIsNone(self.answer(way_cost, self.task, way))
                if way is not None:
                    self.assertIsNone(self.answer(way_cost, self.task, list(way)))

    def test_a_single_state(self):
        task = TableTask([[]])
        for way, cost in (((0,), 0), ([0], 0), ((), None), ((0, 0), None), ((1,), None), (None, None), ((0, 1), None)):
            self.assertEqual(way_cost(task, way), cost)

    def test_tuples(self):
        task = GridTask(1, (2, 3))
        self.assertEqual(way_cost(task, ((0, 0), (0, 1), (1, 1))), 5)
        for way in (((0, 0), (1, 1)), ((0, 1), (1, 1)), ((0, 0), (0, 1)), ((0, 0), (5, 5)), ((1, 1),), ((9, 9), (1, 1))):
            self.assertIsNone(way_cost(task, way))


if __name__ == "__main__":
    unittest.main()
