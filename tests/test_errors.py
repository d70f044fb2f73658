"""The errors of [2] and of the interface."""

import inspect
import unittest

from galleywork import errors
from helper import FIELDS, Case


class ErrorTest(Case):

    def test_base(self):
        self.assertEqual(errors.GalleyError.__bases__, (ValueError,))
        self.assertEqual(errors.GalleyError.__module__, "galleywork.errors")

    def test_all_classes(self):
        told = [name for name, found in vars(errors).items() if inspect.isclass(found)]
        self.assertEqual(sorted(told), sorted([*FIELDS, "GalleyError"]))

    def test_each_is_derived_from_the_base_alone(self):
        for name in FIELDS:
            with self.subTest(name):
                self.assertEqual(getattr(errors, name).__bases__, (errors.GalleyError,))

    def test_arguments_are_fields(self):
        for name, fields in FIELDS.items():
            with self.subTest(name):
                made = getattr(errors, name)
                told = [f"told {field}" for field in fields]
                error = made(*told)
                self.assertEqual([getattr(error, field) for field in fields], told)
                error = made(**dict(zip(fields, told)))
                self.assertEqual([getattr(error, field) for field in fields], told)
                self.assertEqual(vars(error), dict(zip(fields, told)))

    def test_wrong_arguments(self):
        for name, fields in FIELDS.items():
            with self.subTest(name):
                made = getattr(errors, name)
                self.assertRaises(TypeError, made)
                self.assertRaises(TypeError, made, *fields, "more")

    def test_they_are_caught_by_the_base_and_by_value_error(self):
        for name, fields in FIELDS.items():
            for base in (errors.GalleyError, ValueError):
                with self.subTest(name):
                    with self.assertRaises(base):
                        raise getattr(errors, name)(*fields)

    def test_message(self):
        self.assertIn("escape", str(errors.BadText(2, 1, "escape")))


if __name__ == "__main__":
    unittest.main()
