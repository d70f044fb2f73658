"""Glue: [14]."""

import unittest

from galleywork.glue import Glue
from helper import Case


class GlueTest(Case):

    def test_fields(self):
        glue = Glue(1, 2, 3)
        self.assertEqual((glue.natural, glue.stretch, glue.shrink), (1, 2, 3))
        self.assertEqual(vars(glue), {"natural": 1, "stretch": 2, "shrink": 3})

    def test_plain(self):
        self.assertEqual(Glue(1, 2, 3).plain(), (1, 2, 3))
        self.assertIs(type(Glue(1, 2, 3).plain()), tuple)

    def test_sum(self):
        one, two, three = Glue(1, 20, 300), Glue(4000, 50000, 600000), Glue(7, 8, 9)
        self.assertEqual((one + two).plain(), (4001, 50020, 600300))
        self.assertEqual((two + one).plain(), (4001, 50020, 600300))
        self.assertEqual(((one + two) + three).plain(), (one + (two + three)).plain())
        self.assertEqual((one + one).plain(), (2, 40, 600))
        self.assertIsInstance(one + two, Glue)

    def test_a_sum_changes_nothing(self):
        one, two = Glue(1, 2, 3), Glue(4, 5, 6)
        total = one + two
        again = one
        again = again + two
        self.assertEqual((one.plain(), two.plain(), total.plain(), again.plain()),
                         ((1, 2, 3), (4, 5, 6), (5, 7, 9), (5, 7, 9)))

    def test_zero(self):
        self.assertEqual(Glue.zero().plain(), (0, 0, 0))
        self.assertEqual((Glue(1, 2, 3) + Glue.zero()).plain(), (1, 2, 3))
        self.assertEqual((Glue.zero() + Glue(1, 2, 3)).plain(), (1, 2, 3))
        self.assertIsInstance(vars(Glue)["zero"], staticmethod)

    def test_great_numbers(self):
        self.assertEqual((Glue(10 ** 30, 1, 2) + Glue(1, 10 ** 40, 3)).plain(), (10 ** 30 + 1, 10 ** 40 + 1, 5))

    def test_equal(self):
        self.assertIs(Glue(1, 2, 3) == Glue(1, 2, 3), True)
        self.assertIs(Glue(1, 2, 3) != Glue(1, 2, 3), False)
        self.assertIs(Glue.zero() == Glue(0, 0, 0), True)
        for other in (Glue(0, 2, 3), Glue(1, 0, 3), Glue(1, 2, 0), Glue(3, 2, 1)):
            self.assertIs(Glue(1, 2, 3) == other, False)
            self.assertIs(Glue(1, 2, 3) != other, True)

    def test_equal_to_what_is_no_glue(self):
        class Other:
            natural, stretch, shrink = 1, 2, 3

            def __eq__(self, other):
                return True

        for other in ((1, 2, 3), [1, 2, 3], 1, "1", None, True, Other(), Glue, {}):
            with self.subTest(other):
                self.assertIs(Glue(1, 2, 3) == other, False)

    def test_least(self):
        for numbers, least in (((5, 9, 2), 3), ((5, 0, 5), 0), ((0, 0, 0), 0), ((1, 7, 4), -3)):
            self.assertEqual(Glue(*numbers).least, least)
        self.assertIsInstance(vars(Glue)["least"], property)


if __name__ == "__main__":
    unittest.main()
