"""Units, floats, note lines, matter and told tuples: [39]."""

import unittest

from galleywork.boxes import bar_box
from galleywork.glue import Glue
from galleywork.units import MUST, NEED, FloatUnit, Matter, NoteLine, Unit
from helper import Case

BOX = ("unit", 9, 4, 3, ((0, 0, bar_box(9, 4, 3)),))


class UnitsTest(Case):

    def test_the_costs(self):
        self.assertEqual((MUST, NEED), (-1, 30000))

    def test_units(self):
        gap = Glue(2, 3, 1)
        unit = Unit(7, gap, 150, BOX, (1, 2), ("a", "b"), 4)
        self.assertEqual(
            (unit.height, unit.cost, unit.box, unit.notes, unit.marks, unit.block), (7, 150, BOX, (1, 2), ("a", "b"), 4))
        self.assertIs(unit.gap, gap)
        self.assertEqual(self.answer(unit.told), (7, (2, 3, 1), 150))
        self.assertEqual(Unit(0, Glue.zero(), MUST, BOX, (), (), 1).told(), (0, (0, 0, 0), -1))
        self.assertEqual(Unit(10 ** 40, Glue(5, 0, 5), NEED, BOX, (), (), 1).told(), (10 ** 40, (5, 0, 5), 30000))
        by_name = Unit(block=4, marks=("a", "b"), notes=(1, 2), box=BOX, cost=150, gap=gap, height=7)
        self.assertEqual(vars(by_name), vars(unit))

    def test_floats(self):
        one = FloatUnit(7, 3, BOX, ("a",), 5, 2)
        self.assertEqual((one.height, one.behind, one.box, one.marks, one.block, one.number), (7, 3, BOX, ("a",), 5, 2))
        self.assertEqual(self.answer(one.told), (7, 3))
        by_name = FloatUnit(number=2, block=5, marks=("a",), box=BOX, behind=3, height=7)
        self.assertEqual(vars(by_name), vars(one))

    def test_note_lines(self):
        line = NoteLine(7, True, 3, BOX, ("a",), 5, 2)
        self.assertEqual(
            (line.height, line.opens, line.behind, line.box, line.marks, line.block, line.number), (7, True, 3, BOX, ("a",), 5, 2))
        self.assertEqual(self.answer(line.told), (7, True, 3))
        self.assertEqual(NoteLine(1, False, 0, BOX, (), 1, 1).told(), (1, False, 0))
        by_name = NoteLine(number=2, block=5, marks=("a",), box=BOX, behind=3, opens=True, height=7)
        self.assertEqual(vars(by_name), vars(line))

    def test_an_empty_matter(self):
        matter = Matter()
        self.assertEqual((matter.units, matter.floats, matter.lines, matter.records, matter.heads), ([], [], [], [], []))
        self.assertEqual(self.answer(matter.told), ((), (), ()))
        other = Matter()
        other.units.append(Unit(7, Glue.zero(), 0, BOX, (), (), 1))
        self.assertEqual(matter.units, [])

    def test_a_full_matter(self):
        matter = Matter()
        matter.units.extend([Unit(7, Glue(1, 2, 0), 0, BOX, (), (), 1), Unit(8, Glue(0, 0, 0), MUST, BOX, (1,), (), 2)])
        matter.floats.append(FloatUnit(9, 1, BOX, (), 3, 1))
        matter.lines.extend([NoteLine(5, True, 0, BOX, (), 2, 1), NoteLine(4, False, 0, BOX, (), 2, 1)])
        told = self.answer(matter.told)
        self.assertEqual(told, (((7, (1, 2, 0), 0), (8, (0, 0, 0), -1)), ((9, 1),), ((5, True, 0), (4, False, 0))))
        self.assertEqual([type(part) for part in told], [tuple] * 3)


if __name__ == "__main__":
    unittest.main()
