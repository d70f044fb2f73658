"""Numbers left, common tails, solving with what is kept: [52], with [26] and [44]."""

import copy
import unittest

from galleywork.judging import judge
from galleywork.pagetask import PageTask
from galleywork.tails import Solution, Tails, common_tail
from galleywork.units import MUST
from galleywork.ways import reached, solve, togo
from helper import Case, Dice
from test_pagetask import random_told

A, B, C = (5, (0, 0, 0), 0), (6, (1, 1, 0), 0), (7, (2, 1, 1), 150)


def plain_tail(one, two):
    """The common tail, by the words of the document."""
    return max(k for k in range(min(len(one), len(two)) + 1) if list(one)[len(one) - k:] == list(two)[len(two) - k:])


class TailTest(Case):

    def test_example(self):
        self.assertEqual(self.answer(common_tail, [1, 2, 3], (3, 2, 3)), 2)

    def test_common_tails(self):
        for one, two, tail in (
            ([], [], 0), ([], [1], 0), ([1], [], 0), ([1], [1], 1), ([1], [2], 0), ([1, 2], [2], 1), ([2], [1, 2], 1), ([1, 2], [1, 2], 2), ([1, 2], [2, 1], 0),
            ([1, 2, 3], [0, 2, 3], 2), ([1, 9, 3], [1, 8, 3], 1), ([3, 3, 3], [3, 3], 2), ([A, B], (B, A, B), 2), ([(1, True)], [(1, True)], 1), ([(1, True, 2)], [(1, False, 2)], 0),
        ):
            for kind in (list, tuple):
                for other in (list, tuple):
                    self.assertEqual(self.answer(common_tail, kind(one), other(two)), tail)
                    self.assertEqual(common_tail(other(two), kind(one)), tail)

    def test_long_ones(self):
        self.assertEqual(common_tail([0] + [1] * 20000, [2] + [1] * 20000), 20000)

    def test_by_the_definition(self):
        dice = Dice(52)
        for _ in range(300):
            one = [dice.below(2) for _ in range(dice.below(7))]
            two = tuple(dice.below(2) for _ in range(dice.below(7)))
            self.assertEqual(common_tail(one, two), plain_tail(one, two))


class TailsTest(Case):

    def test_fields(self):
        table = {(0, 0, 0): (0, ()), (1, 0, 0): (100, ((100, (0, 0, 0)),))}
        for kind in (list, tuple):
            tails = Tails(kind([A]), kind([(1, 0)]), kind([(1, True, 0)]), table)
            self.assertEqual((tails.units, tails.floats, tails.lines, tails.table), ((A,), ((1, 0),), ((1, True, 0),), table))
            self.assertEqual([type(part) for part in (tails.units, tails.floats, tails.lines, tails.table)], [tuple, tuple, tuple, dict])

    def test_none(self):
        tails = Tails.none()
        self.assertIsInstance(tails, Tails)
        self.assertEqual((tails.units, tails.floats, tails.lines, tails.table), ((), (), (), {}))
        self.assertIsNot(Tails.none().table, tails.table)

    def test_what_is_handed_in_may_change(self):
        table = {(0, 0, 0): (0, ()), (1, 0, 0): (100, ((100, (0, 0, 0)),))}
        units, floats, lines = [A], [(1, 0)], [(1, True, 0)]
        tails = Tails(units, floats, lines, table)
        for row in (table, units, floats, lines):
            row.clear()
        self.assertEqual((tails.units, tails.floats, tails.lines, len(tails.table)), ((A,), ((1, 0),), ((1, True, 0),), 2))

    def test_solutions(self):
        tails = Tails.none()
        solution = Solution((1,), (2,), 3, tails)
        self.assertEqual((solution.way, solution.paper, solution.worked), ((1,), (2,), 3))
        self.assertIs(solution.tails, tails)


class SolveCase(Case):

    def solved(self, tails, task):
        """Solves a task, and asks of the solution what the document says."""
        before = copy.deepcopy((tails.units, tails.floats, tails.lines, tails.table, task.units, task.floats, task.lines))
        found = tails.solved(task)
        self.assertIsInstance(found, Solution)
        self.assertEqual((found.way, found.paper), solve(task))
        self.assertIs(judge(task, found.way, found.paper), True)
        ends = (len(task.units), len(task.floats), len(task.lines))
        bounds = (plain_tail(tails.units, task.units), plain_tail(tails.floats, task.floats), plain_tail(tails.lines, task.lines))
        holding = {left: entry for left, entry in tails.table.items() if all(k <= bound for k, bound in zip(left, bounds))}
        lefts = {tuple(end - k for end, k in zip(ends, state)): state for state in reached(task)}
        self.assertEqual(found.worked, sum(left not in holding for left in lefts))
        self.assertEqual((found.tails.units, found.tails.floats, found.tails.lines), (task.units, task.floats, task.lines))
        table = dict(holding)
        numbers = togo(task)
        for left, state in lefts.items():
            steps = tuple((cost, tuple(end - k for end, k in zip(ends, after))) for cost, after in task.steps(state))
            table[left] = (numbers[state], steps)
            if left in holding:
                self.assertEqual(holding[left], table[left])
        self.assertEqual(found.tails.table, table)
        # Nothing that was there has changed, and what came is not bound to it.
        found.tails.table.clear()
        self.assertEqual((tails.units, tails.floats, tails.lines, tails.table, task.units, task.floats, task.lines), before)
        again = tails.solved(task)
        self.assertEqual((again.way, again.paper, again.worked, again.tails.table), (found.way, found.paper, found.worked, table))
        return again


class SolveTest(SolveCase):

    def test_example(self):
        def task(*units):
            return PageTask(units, (), (), height=100)

        first = self.solved(Tails.none(), task(A, B))
        self.assertEqual((first.worked, [state for state, _ in first.paper]), (3, [(0, 0, 0), (1, 0, 0), (2, 0, 0)]))
        second = self.solved(first.tails, task(C, A, B))
        self.assertEqual((second.worked, len(second.paper)), (1, 4))
        self.assertEqual(sorted(second.tails.table), [(0, 0, 0), (1, 0, 0), (2, 0, 0), (3, 0, 0)])
        third = self.solved(first.tails, task(A, C))
        self.assertEqual(third.worked, 2)
        self.assertEqual(self.solved(first.tails, task(A, B)).worked, 0)

    def test_the_empty_task(self):
        task = PageTask((), (), (), height=1)
        found = self.solved(Tails.none(), task)
        self.assertEqual((found.way, found.paper, found.worked, found.tails.table), (((0, 0, 0),), (((0, 0, 0), 0),), 1, {(0, 0, 0): (0, ())}))
        self.assertEqual(self.solved(found.tails, task).worked, 0)
        # The entry of the end holds for each task.
        self.assertEqual(self.solved(found.tails, PageTask([A], [], [], height=10)).worked, 1)

    def test_no_way(self):
        task = PageTask([A], [(1, 0)], [], height=20, floats_a_page=0)
        found = self.solved(Tails.none(), task)
        self.assertEqual((found.way, found.worked), (None, 2))
        self.assertEqual({left: entry[0] for left, entry in found.tails.table.items()}, {(1, 1, 0): None, (0, 1, 0): None})
        self.assertEqual(self.solved(found.tails, task).worked, 0)

    def test_each_of_the_three_numbers(self):
        units, floats, lines = [A, B, A, B], [(2, 3), (3, 1)], [(1, True, 3), (1, False, 3), (1, True, 1)]
        base = self.solved(Tails.none(), PageTask(units, floats, lines, height=20))
        whole = base.worked
        for one, two, three in (
            ([C] + units[1:], floats, lines), (units[:3] + [C], floats, lines), (units, [(9, 3)] + floats[1:], lines), (units, floats[:1] + [(9, 1)], lines),
            (units, floats, [(2, True, 3)] + lines[1:]), (units, floats, lines[:2] + [(2, True, 1)]), ([C] + units, floats, lines), (units[1:], floats, lines),
            (units, [(2, 4)] + floats, lines), (units, floats[1:], lines), (units, floats, lines[1:]), (units, floats, [(1, True, 4)] + lines), (units, [], lines),
            (units, floats, []), ([], floats, lines),
        ):
            found = self.solved(base.tails, PageTask(one, two, three, height=20))
            self.assertLess(found.worked, max(whole, len(found.paper)))
            self.solved(found.tails, PageTask(units, floats, lines, height=20))

    def test_entries_that_hold_are_kept_though_they_are_not_reached(self):
        units = [A, B, A, B, C]
        base = self.solved(Tails.none(), PageTask(units, [], [], height=12))
        # The first unit does not fit on any page, so no other state is reached.
        found = self.solved(base.tails, PageTask([(13, (0, 0, 0), 0)] + units[2:], [], [], height=12))
        self.assertEqual((found.way, found.paper, found.worked), (None, (((0, 0, 0), None),), 1))
        self.assertEqual(sorted(found.tails.table), [(0, 0, 0), (1, 0, 0), (2, 0, 0), (3, 0, 0), (4, 0, 0)])
        self.assertEqual(self.solved(found.tails, PageTask(units[2:], [], [], height=12)).worked, 0)
        table = {left: base.tails.table[left] for left in ((0, 0, 0), (2, 0, 0), (4, 0, 0))}
        self.assertEqual(self.solved(Tails(units, [], [], table), PageTask([C] + units, [], [], height=12)).worked, 4)

    def test_tables_with_missing_entries(self):
        dice = Dice(53)
        for _ in range(60):
            units, floats, lines = random_told(dice, 5)
            task = PageTask(units, floats, lines, height=12)
            whole = self.solved(Tails.none(), task)
            table = {left: entry for left, entry in whole.tails.table.items() if dice.below(2)}
            some = Tails(units, floats, lines, table)
            self.assertEqual(self.solved(some, task).worked, len(whole.paper) - len(table))
            self.solved(some, PageTask([A] + units, floats, lines, height=12))
            self.solved(some, PageTask(units, floats[1:], lines[1:], height=12))

    def test_changes_one_after_another(self):
        dice = Dice(54)
        for _ in range(25):
            units, floats, lines = random_told(dice, 6)
            tails = Tails.none()
            for _ in range(6):
                kind = dice.below(7)
                at = dice.below(len(units) + 1)
                if kind == 0:
                    units = units[:at] + [dice.pick((A, B, C, (5, (0, 0, 0), MUST)))] + units[at:]
                elif kind == 1:
                    units = units[:at] + units[at + 1:]
                elif kind == 2:
                    units, floats, lines = random_told(dice, 6)
                elif kind == 3:
                    floats = floats[1:]
                elif kind == 4:
                    lines = lines[:-1]
                elif kind == 5:
                    lines = [(2, True, 9)] + lines
                else:
                    floats = [(3, 9)] + floats
                found = self.solved(tails, PageTask(units, floats, lines, height=13, floats_a_page=2, rule=2, float_gap=0))
                tails = found.tails

    def test_front_middle_and_end(self):
        units = [(4 + k % 3, (k % 2, 1, k % 2), 0 if k % 4 else 150) for k in range(60)]
        floats, lines = [(5, 40), (6, 10)], [(2, True, 30), (2, False, 30)]
        base = self.solved(Tails.none(), PageTask(units, floats, lines, height=30))
        worked = []
        for at in (0, 30, 59):
            changed = units[:at] + [(9, (0, 0, 0), 0)] + units[at + 1:]
            worked.append(self.solved(base.tails, PageTask(changed, floats, lines, height=30)).worked)
        self.assertLess(worked[0], worked[1])
        self.assertLess(worked[1], worked[2])
        self.assertEqual(worked[0], 1)

    def test_many_units(self):
        task = PageTask([A] * 3000, [], [], height=6)
        found = Tails.none().solved(task)
        self.assertEqual(found.way, tuple((k, 0, 0) for k in range(3001)))
        self.assertEqual(found.tails.solved(PageTask([B] + [A] * 3000, [], [], height=6)).worked, 1)

    def test_great_numbers(self):
        great = 10 ** 40
        task = PageTask([(great, (great, 0, great), great)] * 3, [(great, great)], [(great, True, 0)], height=4 * great, rule=great, float_gap=great)
        found = self.solved(Tails.none(), task)
        self.assertEqual(self.solved(found.tails, task).worked, 0)


if __name__ == "__main__":
    unittest.main()
