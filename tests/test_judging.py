"""The judge of papers: [27]."""

import unittest

from galleywork.judging import judge
from galleywork.ways import TableTask, reached, solve, way_cost
from helper import Case, Dice, random_rows

GREAT = 10 ** 200


def good(rows, way, paper):
    """The rules of the document for a table task, one after the other."""
    states = [state for state, _ in paper]
    numbers = dict(paper)
    end = len(rows) - 1
    if states != sorted(set(states)) or not all(0 <= state <= end for state in states):
        return False
    if not all(number is None or number >= 0 for number in numbers.values()):
        return False
    if 0 not in numbers or numbers.get(end, 0) != 0:
        return False
    for state in states:
        for cost, after in rows[state]:
            if after not in numbers:
                return False
            if numbers[after] is not None and (numbers[state] is None or numbers[state] > cost + numbers[after]):
                return False
    if way is None:
        return numbers[0] is None
    if len(way) == 0 or way[0] != 0 or way[-1] != end:
        return False
    total = 0
    for one, two in zip(way, way[1:]):
        costs = [cost for cost, after in rows[one] if after == two] if 0 <= one <= end else []
        if not costs:
            return False
        total += min(costs)
    return total == numbers[0]


class JudgeTest(Case):

    def judged(self, task, way, paper):
        found = self.answer(judge, task, way, paper)
        self.assertIn(found, (True, False))
        self.assertIs(type(found), bool)
        self.assertIs(judge(task, way, list(paper)), found)
        if way is not None:
            self.assertIs(judge(task, list(way), tuple(paper)), found)
        return found

    def test_example(self):
        task = TableTask([[(1, 1), (0, 2)], [(0, 2)], []])
        self.assertIs(self.judged(task, (0, 2), ((0, 0), (1, 0), (2, 0))), True)
        self.assertIs(self.judged(task, (0, 1, 2), ((0, 1), (1, 0), (2, 0))), False)

    def test_each_rule_broken_alone(self):
        # The state 3 is not reached, and 4 leads nowhere.
        task = TableTask([[(1, 1), (4, 2), (0, 4)], [(2, 2), (5, 5)], [(1, 5)], [(0, 4), (2, 5)], [], []])
        way, paper = solve(task)
        self.assertEqual((way, paper), ((0, 1, 2, 5), ((0, 4), (1, 3), (2, 1), (4, None), (5, 0))))
        self.assertTrue(self.judged(task, way, paper))
        for what, one_way, one_paper, accepted in (
            ("another least way is no less good", (0, 1, 2, 5), paper, True),
            ("a state that is not reached", way, ((0, 4), (1, 3), (2, 1), (3, 2), (4, None), (5, 0)), True),
            ("with a lesser number", way, ((0, 4), (1, 3), (2, 1), (3, 0), (4, None), (5, 0)), True),
            ("with a number that is too great", way, ((0, 4), (1, 3), (2, 1), (3, 3), (4, None), (5, 0)), False),
            ("with None though there is a way", way, ((0, 4), (1, 3), (2, 1), (3, None), (4, None), (5, 0)), False),
            ("a number for a state that leads nowhere", way, ((0, 4), (1, 3), (2, 1), (4, 7), (5, 0)), True),
            ("a number that is too small for its state", way, ((0, 3), (1, 3), (2, 1), (4, 3), (5, 0)), False),
            ("not ascending", way, ((0, 4), (2, 1), (1, 3), (4, None), (5, 0)), False),
            ("a state twice", way, ((0, 4), (1, 3), (1, 3), (2, 1), (4, None), (5, 0)), False),
            ("a state beyond the last", way, paper + ((6, 0),), False),
            ("a state beyond the last with None", way, paper + ((6, None),), False),
            ("a state far beyond the last", way, paper + ((GREAT, None),), False),
            ("a state ahead of the first", way, ((-1, 0),) + paper, False),
            ("a state ahead of the first with None", way, ((-6, None),) + paper, False),
            ("a number below 0", way, ((0, 4), (1, 3), (2, 1), (4, -1), (5, 0)), False),
            ("a number below 0 for a state that is not reached", way, ((0, 4), (1, 3), (2, 1), (3, -1), (4, None), (5, 0)), False),
            ("the first state missing", way, paper[1:], False),
            ("the end with another number", way, ((0, 4), (1, 3), (2, 1), (4, None), (5, 1)), False),
            ("the end with None", way, ((0, 4), (1, 3), (2, 1), (4, None), (5, None)), False),
            ("the end missing", way, paper[:-1], False),
            ("a next state missing", way, ((0, 4), (1, 3), (4, None), (5, 0)), False),
            ("a next state with None missing", way, ((0, 4), (1, 3), (2, 1), (5, 0)), False),
            ("None ahead of a number", way, ((0, 4), (1, 3), (2, None), (4, None), (5, 0)), False),
            ("None for the first state", way, ((0, None), (1, 3), (2, 1), (4, None), (5, 0)), False),
            ("one too great", way, ((0, 5), (1, 3), (2, 1), (4, None), (5, 0)), False),
            ("one too great further on", way, ((0, 4), (1, 4), (2, 1), (4, None), (5, 0)), False),
            ("one too small further on", way, ((0, 4), (1, 2), (2, 1), (4, None), (5, 0)), False),
            ("one less, and the first state too", way, ((0, 3), (1, 2), (2, 1), (4, None), (5, 0)), False),
            ("None as the way", None, paper, False),
            ("the empty way", (), paper, False),
            ("a way that costs more", (0, 2, 5), paper, False),
            ("a way that begins elsewhere", (1, 2, 5), paper, False),
            ("a way that stops early", (0, 1, 2), paper, False),
            ("a way that leaves a state out", (0, 5), paper, False),
            ("a way with a state twice", (0, 1, 1, 2, 5), paper, False),
            ("a way beyond the end", (0, 1, 2, 5, 6), paper, False),
            ("a way through what is no state", (0, 9, 5), paper, False),
            ("the empty paper", way, (), False),
            ("nothing at all", None, (), False),
        ):
            with self.subTest(what):
                self.assertIs(self.judged(task, one_way, one_paper), accepted)

    def test_no_way(self):
        task = TableTask([[(1, 1), (0, 2)], [(3, 2)], [], []])
        way, paper = solve(task)
        self.assertEqual((way, paper), (None, ((0, None), (1, None), (2, None))))
        for one_way, one_paper, accepted in (
            (None, paper, True),
            (None, paper + ((3, 0),), True),
            (None, paper + ((3, None),), False),
            (None, ((0, None), (1, None), (2, 5)), False),
            (None, ((0, None), (1, 8), (2, 5)), False),
            (None, ((0, 5), (1, 8), (2, 5)), False),
            (None, ((0, 5), (1, 8), (2, None)), False),
            (None, ((0, None), (1, 8), (2, None)), False),
            (None, ((0, 0), (1, None), (2, None)), False),
            (None, ((0, None), (2, None)), False),
            ((0, 3), paper, False),
            ((0, 2, 3), paper, False),
            ((0, 2), paper, False),
            ((), paper, False),
            ((3,), paper + ((3, 0),), False),
            ((0,), ((0, 0), (1, None), (2, None)), False),
        ):
            with self.subTest((one_way, one_paper)):
                self.assertIs(self.judged(task, one_way, one_paper), accepted)

    def test_an_end_that_is_not_reached(self):
        task = TableTask([[], [(2, 2)], []])
        for paper, accepted in (
            (((0, None),), True), (((0, None), (2, 0)), True), (((0, None), (2, 1)), False), (((0, None), (1, 2), (2, 0)), True),
            (((0, None), (1, 3), (2, 0)), False), (((0, None), (1, 2)), False), (((0, 0),), False),
        ):
            self.assertIs(self.judged(task, None, paper), accepted)

    def test_a_single_state(self):
        task = TableTask([[]])
        for way, paper, accepted in (
            ((0,), ((0, 0),), True), (None, ((0, None),), False), (None, ((0, 0),), False), ((0,), ((0, 1),), False),
            ((0,), ((0, None),), False), ((0, 0), ((0, 0),), False), ((), ((0, 0),), False), ((0,), ((0, 0), (1, 0)), False),
        ):
            self.assertIs(self.judged(task, way, paper), accepted)

    def test_great_numbers(self):
        task = TableTask([[(GREAT, 1), (2 * GREAT, 2)], [(GREAT, 2)], []])
        for number, accepted in ((2 * GREAT, True), (2 * GREAT - 1, False), (2 * GREAT + 1, False), (-GREAT, False)):
            self.assertIs(self.judged(task, (0, 2), ((0, number), (1, GREAT), (2, 0))), accepted)
            self.assertIs(self.judged(task, (0, 1, 2), ((0, number), (1, GREAT), (2, 0))), accepted)

    def test_numbers_that_are_no_integers(self):
        task = TableTask([[(1, 1)], []])
        self.assertIs(self.judged(task, (0, 1), ((0, 1), (1, 0))), True)
        for number in ("1", "", (1,), ()):
            self.assertIs(self.judged(task, (0, 1), ((0, number), (1, 0))), False)
            self.assertIs(self.judged(task, (0, 1), ((0, 1), (1, number))), False)

    def test_steps_of_different_costs_to_one_state(self):
        task = TableTask([[(5, 1), (2, 1), (4, 1)], []])
        for number, accepted in ((2, True), (4, False), (5, False), (1, False), (0, False)):
            self.assertIs(self.judged(task, (0, 1), ((0, number), (1, 0))), accepted)

    def test_by_the_definition(self):
        dice = Dice(5)
        seen = {True: 0, False: 0}
        for _ in range(2000):
            rows = random_rows(dice, dice.below(5) + 1, (0, 1, 2))
            task = TableTask(rows)
            way, paper = solve(task)
            self.assertTrue(judge(task, way, paper))
            spoilt = list(paper)
            for _ in range(dice.below(3)):
                k = dice.below(len(spoilt) + 1)
                pair = (dice.below(len(rows) + 1), dice.pick((None, 0, 1, 2, 3)))
                if dice.below(3) == 0:
                    spoilt.insert(k, pair)
                elif k < len(spoilt):
                    spoilt[k] = (spoilt[k][0], pair[1])
            if dice.below(4) == 0:
                way = dice.pick((None, (), (0,), (0, len(rows) - 1), (0, 1, len(rows) - 1)))
            found = judge(task, way, spoilt)
            self.assertIs(found, good(rows, way, spoilt), (rows, way, spoilt))
            seen[found] += 1
            if found and way is not None:
                self.assertEqual(way_cost(task, way), dict(paper)[0])
        self.assertGreater(min(seen.values()), 200)

    def test_states_that_are_not_reached_may_all_stand_there(self):
        dice = Dice(15)
        for _ in range(50):
            rows = random_rows(dice, 8, (0, 1, 2), 3)
            task = TableTask(rows)
            way, paper = solve(task)
            full = {}
            for state in reversed(range(8)):
                numbers = [cost + full[after] for cost, after in rows[state] if full[after] is not None]
                full[state] = 0 if state == 7 else min(numbers, default=None)
            self.assertLessEqual(len(reached(task)), 8)
            self.assertTrue(judge(task, way, [(state, full[state]) for state in range(8)]))


if __name__ == "__main__":
    unittest.main()
