"""Badness and class: [28]."""

import unittest

from galleywork.badness import badness, line_class
from helper import Case


class BadnessTest(Case):

    def test_no_slack_and_no_room(self):
        for slack, room, bad in ((0, 0, 0), (0, 1, 0), (0, 10 ** 40, 0), (1, 0, 10000), (10 ** 40, 0, 10000)):
            self.assertEqual(self.answer(badness, slack, room), bad)

    def test_edges(self):
        for slack, room, bad in (
            (1, 1, 100), (2, 1, 800), (1, 2, 12), (2, 1, 800), (4, 1, 6400), (5, 1, 10000), (1, 5, 0), (1, 4, 1),
            (50, 100, 12), (507, 1000, 13), (506, 1000, 12), (508, 1000, 13), (503, 1000, 12),
            (996, 1000, 98), (997, 1000, 99), (999, 1000, 99), (1000, 1000, 100), (1001, 1000, 100), (1004, 1000, 101),
            (4641, 1000, 9996), (46414, 10000, 9998), (46415, 10000, 9999), (46416, 10000, 10000),
            (4642, 1000, 10000), (4643, 1000, 10000), (9999, 1, 10000),
        ):
            with self.subTest((slack, room)):
                self.assertEqual(self.answer(badness, slack, room), bad)

    def test_great_numbers(self):
        self.assertEqual(badness(10 ** 300, 10 ** 300), 100)
        self.assertEqual(badness(2 * 10 ** 300, 10 ** 300), 800)
        self.assertEqual(badness(10 ** 300, 2 * 10 ** 300), 12)
        self.assertEqual(badness(10 ** 300, 1), 10000)
        self.assertEqual(badness(1, 10 ** 300), 0)
        self.assertEqual(badness(10 ** 20 - 1, 10 ** 20), 99)

    def test_rounding(self):
        for slack in range(0, 40):
            for room in range(1, 12):
                expected = min(10000, 100 * slack ** 3 // room ** 3)
                self.assertEqual(badness(slack, room), expected)


class ClassTest(Case):

    def test_edges(self):
        for slack, bad, found in (
            (0, 0, 1), (5, 0, 1), (-5, 0, 1), (5, 12, 1), (-5, 12, 1), (0, 12, 1),
            (-1, 13, 0), (-1, 99, 0), (-1, 100, 0), (-100, 10000, 0), (-10 ** 40, 13, 0),
            (0, 13, 2), (1, 13, 2), (1, 99, 2), (0, 99, 2), (10 ** 40, 99, 2),
            (0, 100, 3), (1, 100, 3), (1, 10000, 3), (7, 5000, 3),
        ):
            with self.subTest((slack, bad)):
                self.assertEqual(self.answer(line_class, slack, bad), found)


if __name__ == "__main__":
    unittest.main()
