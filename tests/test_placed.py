"""Placed pages: [46], with [35] and [44]."""

import unittest

from galleywork.boxes import bar_box
from galleywork.glue import Glue
from galleywork.placed import page_box, page_boxes
from galleywork.setting import page_task
from galleywork.sound import sound
from galleywork.units import MUST, FloatUnit, Matter, NoteLine, Unit
from galleywork.ways import solve
from helper import Case, demo_sheet, rich_sheet
from texts import accepted_texts


def matter_of(units=(), floats=(), lines=()):
    """A matter of units (h, d, gap, cost), floats (height, behind) and note lines (h, d, opens, behind)."""
    matter = Matter()
    for h, d, gap, cost in units:
        box = ("unit", 20, h, d, ((0, 0, bar_box(19, h, d)),))
        matter.units.append(Unit(h + d, Glue(*gap), cost, box, (), (), 1))
    for height, behind in floats:
        matter.floats.append(FloatUnit(height, behind, ("float", 20, 0, height, ((0, -height, bar_box(20, height, 0)),)), (), 1, 1))
    for h, d, opens, behind in lines:
        matter.lines.append(NoteLine(h + d, opens, behind, ("noteline", 20, h, d, ((0, 0, bar_box(18, h, d)),)), (), 1, 1))
    return matter


class PageBoxTest(Case):

    def page(self, matter, a, b, loose, **changes):
        sheet = demo_sheet(**changes)
        page = self.answer(page_box, sheet, matter, a, b, loose)
        self.assertEqual(page[:4], ("page", 20, 0, sheet.height))
        self.assertIs(type(page[4]), tuple)
        self.assertTrue(sound(page))
        return page[4]

    def test_units_alone(self):
        matter = matter_of([(5, 2, (9, 9, 9), 0), (4, 1, (2, 1, 1), 0), (6, 3, (1, 3, 0), 0)])
        boxes = [unit.box for unit in matter.units]
        # Without gaps 21 high, with them 24; of the slack of 6 the gaps get 1 and 5, as 6 // 4 is 1.
        self.assertEqual(self.page(matter, (0, 0, 0), (3, 0, 0), True), ((0, -5, boxes[0]), (0, -13, boxes[1]), (0, -21, boxes[2])))
        self.assertEqual(self.page(matter, (0, 0, 0), (3, 0, 0), False), ((0, -5, boxes[0]), (0, -14, boxes[1]), (0, -27, boxes[2])))
        self.assertEqual(self.page(matter, (0, 0, 0), (3, 0, 0), True, height=23), ((0, -5, boxes[0]), (0, -12, boxes[1]), (0, -20, boxes[2])))
        self.assertEqual(self.page(matter, (0, 0, 0), (3, 0, 0), False, height=23), ((0, -5, boxes[0]), (0, -12, boxes[1]), (0, -20, boxes[2])))
        self.assertEqual(self.page(matter, (0, 0, 0), (3, 0, 0), False, height=24), ((0, -5, boxes[0]), (0, -13, boxes[1]), (0, -21, boxes[2])))
        self.assertEqual(self.page(matter, (1, 0, 0), (3, 0, 0), True), ((0, -4, boxes[1]), (0, -12, boxes[2])))
        self.assertEqual(self.page(matter, (1, 0, 0), (3, 0, 0), False), ((0, -4, boxes[1]), (0, -27, boxes[2])))
        self.assertEqual(self.page(matter, (2, 0, 0), (3, 0, 0), False), ((0, -6, boxes[2]),))

    def test_a_single_unit_stands_at_the_top(self):
        matter = matter_of([(5, 2, (9, 9, 9), 0)])
        for loose in (True, False):
            self.assertEqual(self.page(matter, (0, 0, 0), (1, 0, 0), loose), ((0, -5, matter.units[0].box),))

    def test_floats_alone(self):
        matter = matter_of([], [(4, 0), (7, 0), (1, 0)])
        boxes = [one.box for one in matter.floats]
        for loose in (True, False):
            self.assertEqual(self.page(matter, (0, 0, 0), (0, 3, 0), loose, float_gap=3), ((0, 0, boxes[0]), (0, -7, boxes[1]), (0, -17, boxes[2])))
            self.assertEqual(self.page(matter, (0, 1, 0), (0, 2, 0), loose), ((0, 0, boxes[1]),))

    def test_note_lines_alone(self):
        matter = matter_of([], [], [(5, 2, True, 0), (3, 1, False, 0)])
        boxes = [line.box for line in matter.lines]
        for loose in (True, False):
            # The rule stands ahead of 11: 30 - 11 - 4 is 15.
            self.assertEqual(self.page(matter, (0, 0, 0), (0, 0, 2), loose, rule=4),
                             ((0, -15, ("bar", 20, 0, 4, ())), (0, -24, boxes[0]), (0, -29, boxes[1])))
            self.assertEqual(self.page(matter, (0, 0, 1), (0, 0, 2), loose, rule=4), ((0, -22, ("bar", 20, 0, 4, ())), (0, -29, boxes[1])))

    def test_all_three(self):
        matter = matter_of([(3, 1, (9, 9, 9), 0), (2, 1, (1, 2, 1), 0)], [(4, 0)], [(5, 1, True, 0)])
        unit, other = [unit.box for unit in matter.units]
        parts = [(0, 0, matter.floats[0].box), (0, -8, unit), (0, -12, other), (0, -23, ("bar", 20, 0, 1, ())), (0, -29, matter.lines[0].box)]
        # 4 + 1 + 4 + 1 + 3 + 1 + 6 is 20.
        self.assertEqual(self.page(matter, (0, 0, 0), (2, 1, 1), True), tuple(parts))
        parts[2] = (0, -22, other)
        self.assertEqual(self.page(matter, (0, 0, 0), (2, 1, 1), False), tuple(parts))
        parts[2:] = [(0, -11, other), (0, -12, ("bar", 20, 0, 1, ())), (0, -18, matter.lines[0].box)]
        for loose in (True, False):
            self.assertEqual(self.page(matter, (0, 0, 0), (2, 1, 1), loose, height=19), tuple(parts))

    def test_pairs_of_parts(self):
        matter = matter_of([(3, 1, (9, 9, 9), 0)], [(4, 0)], [(5, 1, True, 0)])
        bar = ("bar", 20, 0, 1, ())
        self.assertEqual(self.page(matter, (0, 0, 0), (1, 1, 0), False), ((0, 0, matter.floats[0].box), (0, -8, matter.units[0].box)))
        self.assertEqual(self.page(matter, (0, 0, 0), (1, 0, 1), False), ((0, -3, matter.units[0].box), (0, -23, bar), (0, -29, matter.lines[0].box)))
        self.assertEqual(self.page(matter, (0, 0, 0), (0, 1, 1), False), ((0, 0, matter.floats[0].box), (0, -23, bar), (0, -29, matter.lines[0].box)))

    def test_the_box_may_be_higher_than_it_is_deep(self):
        matter = matter_of([(0, 5, (0, 0, 0), 0), (5, 0, (0, 0, 0), 0)], [], [(0, 2, True, 0), (2, 0, False, 0)])
        self.assertEqual([part[1] for part in self.page(matter, (0, 0, 0), (2, 0, 2), True)], [0, -10, -25, -26, -30])


class PageBoxesTest(Case):

    def test_the_pages_of_a_way(self):
        sheet = demo_sheet(height=14)
        matter = matter_of([(3, 1, (1, 2, 1), 0), (3, 1, (1, 2, 1), 0), (3, 1, (1, 2, 1), 0), (3, 1, (1, 2, 1), MUST), (3, 1, (1, 2, 1), 0)],
                           [(4, 3)], [(2, 1, True, 2), (2, 1, False, 2)])
        task = page_task(sheet, matter)
        way, _ = solve(task)
        pages = self.answer(page_boxes, sheet, matter, task, way)
        self.assertIs(type(pages), list)
        self.assertEqual(pages, [page_box(sheet, matter, a, b, task.loose(b)) for a, b in zip(way, way[1:])])
        self.assertEqual(self.answer(page_boxes, sheet, matter, task, list(way)), pages)
        self.assertIn(True, [task.loose(b) for b in way[1:]])
        self.assertIn(False, [task.loose(b) for b in way[1:]])
        shown = [part[2] for page in pages for part in page[4] if part[2][0] == "unit"]
        self.assertEqual(shown, [unit.box for unit in matter.units])

    def test_other_ways(self):
        sheet = demo_sheet()
        matter = matter_of([(3, 1, (1, 9, 1), 0)] * 3)
        task = page_task(sheet, matter)
        for way in (((0, 0, 0), (3, 0, 0)), ((0, 0, 0), (1, 0, 0), (3, 0, 0)), ((0, 0, 0), (2, 0, 0), (3, 0, 0)), ((0, 0, 0), (1, 0, 0), (2, 0, 0), (3, 0, 0))):
            pages = page_boxes(sheet, matter, task, way)
            self.assertEqual([len(page[4]) for page in pages], [b[0] - a[0] for a, b in zip(way, way[1:])])
        stretched = page_boxes(sheet, matter, task, ((0, 0, 0), (2, 0, 0), (3, 0, 0)))[0]
        self.assertEqual([part[1] for part in stretched[4]], [-3, -29])

    def test_no_pages(self):
        sheet = demo_sheet()
        self.assertEqual(page_boxes(sheet, Matter(), page_task(sheet, Matter()), ((0, 0, 0),)), [])

    def test_stretched_pages_are_full(self):
        sheet = rich_sheet()
        for _, setting in accepted_texts(sheet, 46, 12, 14):
            task = page_task(sheet, setting.matter)
            for a, b, page in zip(setting.way, setting.way[1:], setting.page_boxes):
                self.assertEqual(page, page_box(sheet, setting.matter, a, b, task.loose(b)))
                glue = task.page_glue(a, b)
                units = [part for part in page[4] if part[2][0] == "unit"]
                notes = [part for part in page[4] if part[2][0] in ("noteline", "bar")]
                if units and (glue.natural > 90 or glue.natural < 90 and glue.stretch > 0 and not task.loose(b)):
                    foot = sum(part[2][2] + part[2][3] for part in notes)
                    self.assertEqual(-units[-1][1] + units[-1][2][3], 90 - foot)


if __name__ == "__main__":
    unittest.main()
