"""The interface: names, arguments, and the files in which functions and classes are defined."""

import ast
import importlib
import inspect
import pathlib
import unittest

FUNCTIONS = {
    "chars": {"is_word_char": "(char)", "is_letter": "(char)", "is_digit": "(char)", "sign_kind": "(char)"},
    "tokens": {"tokenize": "(text)", "written": "(tokens)", "size_of": "(token)"},
    "groups": {"check_braces": "(tokens)", "group_end": "(tokens, at)", "groups_behind": "(tokens, at, count)"},
    "macros": {"expand": "(tokens)"},
    "formread": {"read_formula": "(tokens, lo, hi)"},
    "inlines": {"trimmed": "(inlines)", "has_solid": "(inlines)"},
    "reading": {"read_blocks": "(tokens)", "read_text": "(text)"},
    "formwrite": {"write_formula": "(row)"},
    "writing": {"write_inlines": "(inlines)", "write_blocks": "(blocks)"},
    "numbering": {"label_numbers": "(blocks)", "resolve": "(blocks)", "notes_of": "(block)", "marks_of": "(inlines)"},
    "fontcheck": {"check_font": "(told)", "good_triple": "(triple)"},
}
METHODS = {
    ("macros", "Macros"): {
        "__init__": "(self)", "defined": "(self, name)", "arity": "(self, number)", "body": "(self, number)",
        "define": "(self, name, arity, tokens)", "write_out": "(self, tokens)",
    },
    ("inlines", "Reader"): {"__init__": "(self, tokens)", "inlines": "(self, lo, hi, notes)"},
    ("glue", "Glue"): {
        "__init__": "(self, natural, stretch, shrink)", "__add__": "(self, other)", "__eq__": "(self, other)",
        "zero": "()", "least": None, "plain": "(self)",
    },
    ("fonts", "Font"): {
        "__init__": "(self, told)", "__contains__": "(self, sign)", "sizes": "(self, sign)",
        "kern_of": "(self, left, right)", "joined": "(self, left, right)", "leading": None, "widest": None,
        "kern_most": None,
    },
    ("patterns", "Patterns"): {"__init__": "(self, patterns, exceptions)", "points": "(self, word)"},
    ("maths", "MathSize"): {"__init__": "(self, size, told)", "bracket": "(self, char, need)"},
    ("book", "Book"): {
        "__init__": "(self, fonts, maths, *, patterns=(), exceptions=())", "has_font": "(self, name)",
        "font_of": "(self, name)", "math_of": "(self, size)", "points": "(self, word)",
    },
    ("sheet", "Style"): {"__init__": "(self, told)", "room": None},
    ("sheet", "Sheet"): {
        "__init__": "(self, book, measure, height, styles, *, floats=1, rule=1, float_gap=1, column_gap=1)",
        "style_of": "(self, name)", "changed": "(self, **changes)",
    },
}
ERRORS = {
    "BadText": "(line, column, what)", "TooLong": "(what)", "BadFont": "(name, what)", "BadPattern": "(pattern)",
    "BadMaths": "(size, what)", "BadSheet": "(what)", "NoSign": "(letter, block)", "TooWide": "(block)",
    "TooTall": "(block)", "BadTask": "(state)", "BadDevice": "(line)", "BadEdit": "(what)", "NoText": "(name)",
    "BadDeed": "(place)",
}
FOLDER = pathlib.Path(__file__).resolve().parent.parent / "galleywork"


def module(name):
    return importlib.import_module("galleywork." + name)


class InterfaceTest(unittest.TestCase):

    def test_functions(self):
        for file, functions in FUNCTIONS.items():
            for name, arguments in functions.items():
                with self.subTest((file, name)):
                    found = vars(module(file))[name]
                    self.assertTrue(inspect.isfunction(found))
                    self.assertEqual(str(inspect.signature(found)), arguments)
                    self.assertEqual(found.__module__, "galleywork." + file)

    def test_methods(self):
        for (file, name), methods in METHODS.items():
            found = vars(module(file))[name]
            self.assertTrue(inspect.isclass(found))
            self.assertEqual(found.__module__, "galleywork." + file)
            for method, arguments in methods.items():
                with self.subTest((name, method)):
                    own = vars(found)[method]
                    if arguments is None:
                        self.assertIsInstance(own, property)
                    else:
                        self.assertEqual(str(inspect.signature(getattr(found, method))), arguments)
                        self.assertEqual(isinstance(own, staticmethod), not arguments.startswith("(self"))

    def test_errors(self):
        for name, arguments in {**ERRORS, "GalleyError": None}.items():
            with self.subTest(name):
                found = vars(module("errors"))[name]
                self.assertEqual(found.__module__, "galleywork.errors")
                if arguments is not None:
                    self.assertEqual(str(inspect.signature(found)), arguments)

    def test_the_folder_of_the_package(self):
        names = sorted(path.name for path in FOLDER.iterdir() if path.name != "__pycache__")
        self.assertIn("__init__.py", names)
        for name in names:
            with self.subTest(name):
                self.assertTrue(name.endswith(".py"))
                lines = (FOLDER / name).read_text(encoding="ascii").split("\n")
                self.assertLessEqual(len(lines) - 1, 399)
                self.assertLessEqual(max(len(line) for line in lines), 120)
                for node in ast.walk(ast.parse("\n".join(lines))):
                    if isinstance(node, ast.FunctionDef):
                        self.assertLessEqual(node.end_lineno - node.lineno + 1, 40, node.name)


if __name__ == "__main__":
    unittest.main()
