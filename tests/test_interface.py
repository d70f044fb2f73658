"""The interface: names, arguments, and the files in which functions and classes are defined."""

import ast
import importlib
import inspect
import pathlib
import unittest

FUNCTIONS = {
    "chars": {"is_word_char": "(char)", "is_letter": "(char)", "is_digit": "(char)", "sign_kind": "(char)"},
    "tokens": {"tokenize": "(text)", "written": "(tokens)", "size_of": "(token)"},
    "groups": {"check_braces": "(tokens)", "group_end": "(tokens, at)", "groups_behind": "(tokens, at, count)"},
    "macros": {"expand": "(tokens)"},
    "formread": {"read_formula": "(tokens, lo, hi)"},
    "inlines": {"trimmed": "(inlines)", "has_solid": "(inlines)"},
    "reading": {"read_blocks": "(tokens)", "read_text": "(text)"},
    "formwrite": {"write_formula": "(row)"},
    "writing": {"write_inlines": "(inlines)", "write_blocks": "(blocks)"},
    "numbering": {"label_numbers": "(blocks)", "resolve": "(blocks)", "notes_of": "(block)", "marks_of": "(inlines)"},
    "fontcheck": {"check_font": "(told)", "good_triple": "(triple)"},
    "shaping": {"shape": "(font, letters)", "width_of": "(font, signs)", "word_box": "(font, letters, kind='word')"},
    "boxes": {
        "sign_box": "(font, sign, letters)", "bar_box": "(w, h, d)", "grow_box": "(name, w, h, d)", "is_leaf": "(box)",
        "hull": "(kind, parts)", "beside": "(kind, *boxes, gap=0)", "stacked": "(kind, width, *boxes)",
        "leaves": "(box, x, y)", "rect": "(box, x, y)",
    },
    "formkinds": {"item_kind": "(tree)", "kinds_of": "(items)", "gap_between": "(math, left, right)"},
    "formparts": {
        "row_box": "(m, boxes, kinds)", "over_box": "(m, a, b)", "script_box": "(m, base, up, down)", "root_box": "(m, a)",
    },
    "formgrown": {"fence_box": "(m, left, a, right)", "grid_box": "(m, rows)"},
    "formboxes": {
        "formula_box": "(book, tree, size)", "missing_sign": "(book, tree, size)", "note_mark": "(book, number)",
    },
    "badness": {"badness": "(slack, room)", "line_class": "(slack, bad)"},
    "ways": {"reached": "(task)", "togo": "(task)", "solve": "(task)", "way_cost": "(task, way)"},
    "judging": {"judge": "(task, way, paper)"},
    "solids": {"solids_of": "(style, inlines)", "item_inlines": "(n, inlines)", "note_inlines": "(n, inlines)"},
    "content": {"pieces_of": "(solids, joints, i, j, hyphen)", "pieces_glue": "(works, pieces)"},
    "places": {
        "word_points": "(book, solids, joints)", "chunks": "(joints, count)",
        "place_kinds": "(works, style, measure, solids, joints)",
    },
    "linetask": {"line_cost": "(strip, i, j, glue)"},
    "evened": {"even_gaps": "(glues, slack, stretching)", "gap_widths": "(strip, i, j)", "line_box": "(strip, i, j)"},
    "paragraphs": {"set_paragraph": "(works, style, measure, solids, joints, block)"},
    "displays": {"set_display": "(works, style, row, block)"},
    "tables": {"table_rows": "(works, block, number)"},
    "notes": {"note_rows": "(works, number, inlines, block)"},
    "floats": {"float_row": "(works, block, number)"},
    "build": {"build_matter": "(works, resolved)"},
    "placed": {"page_box": "(sheet, matter, a, b, loose)", "page_boxes": "(sheet, matter, task, way)"},
    "sound": {"sound": "(box)"},
    "devwrite": {"device_text": "(pages)", "page_ink": "(pages)"},
    "devread": {"draw_device": "(book, text)"},
    "tails": {"common_tail": "(one, two)"},
    "backmatter": {
        "page_numbers": "(way)", "contents_of": "(matter, numbers)", "index_of": "(matter, numbers)",
        "back_matter": "(works, resolved, contents, index)",
    },
    "setting": {
        "page_task": "(sheet, matter)", "set_text": "(works, text, tails, back_tails)", "fresh": "(sheet, text)",
    },
    "listing": {"line_rows": "(page)", "show_page": "(number, page)", "show_pages": "(pages)"},
}
TASK_METHODS = {"first": "(self)", "is_end": "(self, state)", "steps": "(self, state)", "rank": "(self, state)"}
WORKS_METHODS = {
    "word": "(self, font, letters, kind)", "formula": "(self, row)", "mark": "(self, n)",
    "paragraph": "(self, style, measure, solids, joints, block)", "display": "(self, row, block)",
}
METHODS = {
    ("macros", "Macros"): {
        "__init__": "(self)", "defined": "(self, name)", "arity": "(self, number)", "body": "(self, number)",
        "define": "(self, name, arity, tokens)", "write_out": "(self, tokens)",
    },
    ("inlines", "Reader"): {"__init__": "(self, tokens)", "inlines": "(self, lo, hi, notes)"},
    ("glue", "Glue"): {
        "__init__": "(self, natural, stretch, shrink)", "__add__": "(self, other)", "__eq__": "(self, other)",
        "zero": "()", "least": None, "plain": "(self)",
    },
    ("fonts", "Font"): {
        "__init__": "(self, told)", "__contains__": "(self, sign)", "sizes": "(self, sign)",
        "kern_of": "(self, left, right)", "joined": "(self, left, right)", "leading": None, "widest": None,
        "kern_most": None,
    },
    ("patterns", "Patterns"): {"__init__": "(self, patterns, exceptions)", "points": "(self, word)"},
    ("maths", "MathSize"): {"__init__": "(self, size, told)", "bracket": "(self, char, need)"},
    ("book", "Book"): {
        "__init__": "(self, fonts, maths, *, patterns=(), exceptions=())", "has_font": "(self, name)",
        "font_of": "(self, name)", "math_of": "(self, size)", "points": "(self, word)",
    },
    ("sheet", "Style"): {"__init__": "(self, told)", "room": None},
    ("sheet", "Sheet"): {
        "__init__": "(self, book, measure, height, styles, *, floats=1, rule=1, float_gap=1, column_gap=1)",
        "style_of": "(self, name)", "changed": "(self, **changes)",
    },
    ("ways", "Task"): {},
    ("ways", "TableTask"): {"__init__": "(self, rows)", **TASK_METHODS},
    ("strip", "Strip"): {
        "__init__": "(self, works, style, measure, solids, joints)", "kind": "(self, k)", "places": "(self)",
        "content": "(self, i, j)", "glue": "(self, i, j)",
    },
    ("linetask", "LineTask"): {"__init__": "(self, strip)", **TASK_METHODS, "lines_from": "(self, i)"},
    ("quicklines", "QuickLineTask"): {"__init__": "(self, strip)", "lines_from": "(self, i)"},
    ("paragraphs", "Paragraph"): {"__init__": "(self, way, paper, ends, boxes)"},
    ("displays", "DisplayTask"): {
        "__init__": "(self, works, style, row)", **TASK_METHODS, "piece_box": "(self, i, j)",
    },
    ("works", "Works"): {"__init__": "(self, sheet)", **WORKS_METHODS},
    ("units", "Unit"): {"__init__": "(self, height, gap, cost, box, notes, marks, block)", "told": "(self)"},
    ("units", "FloatUnit"): {"__init__": "(self, height, behind, box, marks, block, number)", "told": "(self)"},
    ("units", "NoteLine"): {"__init__": "(self, height, opens, behind, box, marks, block, number)", "told": "(self)"},
    ("units", "Matter"): {"__init__": "(self)", "told": "(self)"},
    ("pagetask", "PageTask"): {
        "__init__": "(self, units, floats, lines, *, height, floats_a_page=1, rule=1, float_gap=1)", **TASK_METHODS,
        "page_glue": "(self, a, b)", "loose": "(self, b)", "page_cost": "(self, a, b)",
    },
    ("devread", "Machine"): {"__init__": "(self, book)", "__call__": "(self, line)", "ink": "(self)"},
    ("kept", "Kept"): {
        "__init__": "(self, sheet)", **WORKS_METHODS, "stand": "(self)", "back_to": "(self, stand)",
        "worked_since": "(self, stand)",
    },
    ("tails", "Tails"): {"__init__": "(self, units, floats, lines, table)", "none": "()", "solved": "(self, task)"},
    ("tails", "Solution"): {"__init__": "(self, way, paper, worked, tails)"},
    ("setting", "Setting"): {},
    ("galleys", "Galley"): {
        "__init__": "(self, sheet, text='', *, kept=None)", "text": None, "page_count": None, "__iter__": "(self)",
        "edit": "(self, at, *, cut=0, put='')", "put_text": "(self, text)", "undo": "(self)", "redo": "(self)",
        "work": "(self)", "pages": "(self)", "papers": "(self)", "contents": "(self)", "index_rows": "(self)",
        "device": "(self)", "held": "(self)", "hold": "(self, state)",
    },
    ("desk", "Desk"): {
        "__init__": "(self, sheet)", "put": "(self, name, text)", "edit": "(self, name, at, *, cut=0, put='')",
        "undo": "(self, name)", "redo": "(self, name)", "drop": "(self, name)", "galley": "(self, name)",
        "names": "(self)", "batch": "(self, deeds)",
    },
}
BASES = {
    ("ways", "TableTask"): ("ways", "Task"), ("linetask", "LineTask"): ("ways", "Task"),
    ("quicklines", "QuickLineTask"): ("linetask", "LineTask"), ("displays", "DisplayTask"): ("ways", "Task"),
    ("pagetask", "PageTask"): ("ways", "Task"), ("kept", "Kept"): ("works", "Works"),
}
VALUES = {
    ("tokens", "SIZE_LIMIT"): 6000, ("groups", "DEPTH_LIMIT"): 12, ("units", "MUST"): -1, ("units", "NEED"): 30000,
    ("sheet", "STYLE_NAMES"): ("back", "caption", "cell", "display", "head", "item", "note", "par", "quote"),
}
CLASS_VALUES = {("devread", "Machine", "DEPTH"): 60, ("galleys", "Galley", "UNDO_LIMIT"): 20}
ERRORS = {
    "BadText": "(line, column, what)", "TooLong": "(what)", "BadFont": "(name, what)", "BadPattern": "(pattern)",
    "BadMaths": "(size, what)", "BadSheet": "(what)", "NoSign": "(letter, block)", "TooWide": "(block)",
    "TooTall": "(block)", "BadTask": "(state)", "BadDevice": "(line)", "BadEdit": "(what)", "NoText": "(name)",
    "BadDeed": "(place)",
}
FOLDER = pathlib.Path(__file__).resolve().parent.parent / "galleywork"


def module(name):
    return importlib.import_module("galleywork." + name)


class InterfaceTest(unittest.TestCase):

    def test_functions(self):
        for file, functions in FUNCTIONS.items():
            for name, arguments in functions.items():
                with self.subTest((file, name)):
                    found = vars(module(file))[name]
                    self.assertTrue(inspect.isfunction(found))
                    self.assertEqual(str(inspect.signature(found)), arguments)
                    self.assertEqual(found.__module__, "galleywork." + file)

    def test_methods(self):
        for (file, name), methods in METHODS.items():
            found = vars(module(file))[name]
            self.assertTrue(inspect.isclass(found))
            self.assertEqual(found.__module__, "galleywork." + file)
            for method, arguments in methods.items():
                with self.subTest((name, method)):
                    own = vars(found)[method]
                    if arguments is None:
                        self.assertIsInstance(own, property)
                    else:
                        self.assertEqual(str(inspect.signature(getattr(found, method))), arguments)
                        self.assertEqual(isinstance(own, staticmethod), not arguments.startswith("(self"))

    def test_bases(self):
        for (file, name), (base_file, base) in BASES.items():
            with self.subTest(name):
                self.assertEqual(vars(module(file))[name].__bases__, (vars(module(base_file))[base],))

    def test_values(self):
        for (file, name), value in VALUES.items():
            with self.subTest(name):
                self.assertEqual(vars(module(file))[name], value)
        for (file, owner, name), value in CLASS_VALUES.items():
            with self.subTest(name):
                self.assertEqual(vars(vars(module(file))[owner])[name], value)

    def test_errors(self):
        for name, arguments in {**ERRORS, "GalleyError": None}.items():
            with self.subTest(name):
                found = vars(module("errors"))[name]
                self.assertEqual(found.__module__, "galleywork.errors")
                if arguments is not None:
                    self.assertEqual(str(inspect.signature(found)), arguments)

    def test_the_folder_of_the_package(self):
        names = sorted(path.name for path in FOLDER.iterdir() if path.name != "__pycache__")
        self.assertIn("__init__.py", names)
        for name in names:
            with self.subTest(name):
                self.assertTrue(name.endswith(".py"))
                lines = (FOLDER / name).read_text(encoding="ascii").split("\n")
                self.assertLessEqual(len(lines) - 1, 399)
                self.assertLessEqual(max(len(line) for line in lines), 120)
                for node in ast.walk(ast.parse("\n".join(lines))):
                    if isinstance(node, ast.FunctionDef):
                        self.assertLessEqual(node.end_lineno - node.lineno + 1, 40, node.name)


if __name__ == "__main__":
    unittest.main()
