"""Random texts, and what tests of the whole program ask of a setting."""

from galleywork.boxes import is_leaf, leaves
from galleywork.devread import draw_device
from galleywork.devwrite import device_text, page_ink
from galleywork.displays import DisplayTask
from galleywork.errors import GalleyError
from galleywork.judging import judge
from galleywork.linetask import LineTask
from galleywork.numbering import notes_of, resolve
from galleywork.quicklines import QuickLineTask
from galleywork.setting import fresh, page_task
from galleywork.solids import item_inlines, note_inlines, solids_of
from galleywork.sound import sound
from galleywork.strip import Strip
from galleywork.works import Works
from helper import Dice

WORDS = ("a", "an", "abba", "table", "office", "one", "banana", "end", "it-is", "fin", "tt", "at", "42", "x;", "(so)", "Bob")
FORMULAS = ("x", "x^2_1", "a+b", "a=b", "\\over{a}{b+c}", "\\root{x}", "\\fence{[)}{a+b}", "\\grid{a & b \\\\ c & }",
            "\\fence{(.}{\\over{x}{y}}", "{a}^{b_c}", "-x<y", "\\over{\\over{a}{b}}{c}")
DISPLAYS = ("a+b=c-d", "x=\\over{a}{b}", "a=b+c+d+e=f-g*h=(a+b)", "\\grid{a & b \\\\ c & d}", "\\root{a=b}", "(a,b]")


class TextMaker:
    """Makes a random text that the rich sheet mostly accepts."""

    def __init__(self, seed):
        self.dice = Dice(seed)
        self.labels = 0

    def word(self):
        return self.dice.pick(WORDS)

    def piece(self, notes, depth=0):
        """An inline with at least one solid."""
        kind = self.dice.below(16)
        if kind == 0 and depth < 2:
            return "\\strong{" + self.words(notes, depth + 1) + "}"
        if kind == 1:
            return "$" + self.dice.pick(FORMULAS) + "$"
        if kind == 2 and notes:
            return self.word() + "\\note{" + self.words(False, depth) + "}"
        if kind == 3:
            return self.word() + "\\mark{" + self.dice.pick(("a", "bee", "so", "z9")) + "}"
        if kind == 4 and self.labels:
            return "\\ref{l" + str(1 + self.dice.below(self.labels)) + "}"
        if kind == 5:
            self.labels += 1
            return self.word() + "\\label{l" + str(self.labels) + "}"
        if kind == 6:
            return self.word() + "\\-" + self.word()
        return self.word()

    def words(self, notes, depth=0):
        """Inlines with at least one solid."""
        parts = [self.piece(notes, depth) for _ in range(1 + self.dice.below(7))]
        return "".join(part + self.dice.pick((" ", " ", " ", " ", "~", "", "\\\\")) for part in parts[:-1]) + parts[-1]

    def cell(self):
        kind = self.dice.below(5)
        if kind == 0:
            return self.dice.pick(("", "\\mark{cell}", "~"))
        return self.word() if kind < 4 else self.words(True, 2)

    def block(self):
        """A block."""
        kind = self.dice.below(18)
        if kind == 0:
            return "\\head{" + self.words(True) + "}"
        if kind < 3:
            return "\\item{" + self.words(True) + "}"
        if kind == 3:
            return "\\quote{" + self.words(True) + "}"
        if kind == 4:
            return "\\display{" + self.dice.pick(DISPLAYS) + "}"
        if kind == 5:
            rows = [(self.cell(), self.cell()) for _ in range(1 + self.dice.below(3))]
            return "\\table{20 30}{" + "\\\\".join(" & ".join(row) for row in rows) + "}"
        if kind == 6:
            caption = self.dice.pick(("", "\\mark{fig}", self.words(False), self.word() + "\\mark{fig}"))
            return "\\float{" + str(1 + self.dice.below(40)) + "}{" + caption + "}"
        if kind == 7:
            return "\\newpage"
        return self.words(True) + " " + self.words(True)

    def text(self, blocks):
        """A text of some blocks."""
        self.labels = 0
        return "\n\n".join(self.block() for _ in range(blocks))


def accepted_texts(sheet, seed, count, blocks):
    """Some random texts that a sheet accepts, with their fresh settings."""
    maker = TextMaker(seed)
    found = []
    while len(found) < count:
        text = maker.text(1 + maker.dice.below(blocks))
        try:
            found.append((text, fresh(sheet, text)))
        except GalleyError:
            pass
    return found


def tree_letters(tree):
    """The characters of a formula in the order of writing."""
    kind = tree[0]
    if kind == "sign":
        return tree[1]
    if kind == "row":
        return "".join(map(tree_letters, tree[1]))
    if kind == "grid":
        return "".join(tree_letters(cell) for row in tree[1] for cell in row)
    if kind == "fence":
        return tree_letters(tree[3])
    return "".join(tree_letters(part) for part in tree[1:] if part is not None)


def inline_letters(inlines):
    """The characters that resolved inlines show, notes as the numbers of their marks."""
    found = ""
    for inline in inlines:
        if inline[0] == "word":
            found += inline[1]
        elif inline[0] == "formula":
            found += tree_letters(inline[1])
        elif inline[0] == "note":
            found += str(inline[1])
        elif inline[0] == "strong":
            found += inline_letters(inline[1])
    return found


def text_letters(resolved):
    """The characters that blocks show: in the text, in its captions and in its notes, each time with those added."""
    texts, captions, notes = "", "", ""
    for block in resolved:
        if block[0] == "float":
            captions += inline_letters(block[3])
        elif block[0] == "display":
            texts += tree_letters(block[1])
        elif block[0] == "table":
            texts += "".join(inline_letters(cell) for row in block[2] for cell in row)
        elif block[0] == "item":
            texts += str(block[1]) + "." + inline_letters(block[2])
        elif block[0] != "newpage":
            texts += inline_letters(block[-1])
        notes += "".join(str(n) + inline_letters(inlines) for n, inlines in notes_of(block))
    return texts, captions, notes


def box_letters(box):
    """The characters for which the leaves of a box stand, without the hyphens that the program adds."""
    if box[0] == "sign":
        return box[4][2]
    if is_leaf(box):
        return ""
    found = "".join(box_letters(part) for _, _, part in box[4])
    if box[0] == "parted":
        assert found.endswith("-")
        return found[:-1]
    return found


def page_letters(pages):
    """The characters on pages: in the units, in the floats and in the note lines."""
    found = {"unit": "", "float": "", "noteline": ""}
    for page in pages:
        for _, _, box in page[4]:
            if box[0] != "bar":
                found[box[0]] += box_letters(box)
    return tuple(found.values())


def record_tasks(sheet, setting):
    """The tuples (style name, block, task) for all records of a setting, in their order, by the words of [43] and [54]."""
    works = Works(sheet)
    found = []

    def line_task(name, measure, inlines, number):
        style = sheet.style_of(name)
        solids, joints, _ = solids_of(style, inlines)
        strip = Strip(works, style, style.measure if measure is None else measure, solids, joints)
        # Both tasks have the same steps, but the plain one takes long over long paragraphs.
        found.append((name, number, LineTask(strip) if strip.count < 100 else QuickLineTask(strip)))

    for number, block in enumerate(resolve(setting.blocks), 1):
        if block[0] == "display":
            found.append(("display", number, DisplayTask(works, sheet.style_of("display"), block[1])))
        elif block[0] == "table":
            for row in block[2]:
                for width, cell in zip(block[1], row):
                    line_task("cell", width, cell, number)
        elif block[0] == "float":
            line_task("caption", None, block[3], number)
        elif block[0] == "item":
            line_task("item", None, item_inlines(block[1], block[2]), number)
        elif block[0] != "newpage":
            line_task(block[0], None, block[-1], number)
        for n, inlines in notes_of(block):
            line_task("note", None, note_inlines(n, inlines), number)
    return found


class Checks:
    """What a test case of the whole program asks of a setting."""

    def check_letters(self, setting):
        resolved = resolve(setting.blocks)
        count = len(setting.way) - 1
        self.assertEqual(page_letters(setting.page_boxes[:count]), text_letters(resolved))
        self.assertEqual(len(setting.page_boxes), count + len(setting.back_way) - 1)

    def check_pages(self, sheet, setting):
        for page in setting.page_boxes:
            self.assertEqual(page[:4], ("page", sheet.measure, 0, sheet.height))
            self.assertTrue(sound(page))
            for x, y, leaf in leaves(page, 0, 0):
                self.assertTrue(0 <= x and x + leaf[1] <= sheet.measure)
                self.assertTrue(-sheet.height <= y - leaf[3] and y + leaf[2] <= 0)
        self.assertEqual(draw_device(sheet.book, device_text(setting.page_boxes)), page_ink(setting.page_boxes))

    def check_records(self, sheet, setting):
        tasks = record_tasks(sheet, setting)
        tasks.append(("pages", 0, page_task(sheet, setting.matter)))
        count = len(tasks)
        self.assertEqual([record[:2] for record in setting.records[:count]], [row[:2] for row in tasks])
        for record, (_, _, task) in zip(setting.records, tasks):
            self.assertIs(judge(task, record[2], record[3]), True)
            self.assertEqual([state for state, _ in record[3]], sorted(set(state for state, _ in record[3])))
        back = setting.records[count:]
        self.assertEqual([record[0] for record in back], ["back"] * (len(back) - 1) + ["backpages"])
        self.assertEqual(len(back) - 1, len(setting.heads_told) + len(setting.marks_told))
        self.assertIs(judge(page_task(sheet, setting.back), back[-1][2], back[-1][3]), True)
        self.assertEqual(back[-1], ("backpages", 0, setting.back_way, setting.back_paper))
        self.assertEqual(setting.records[count - 1], ("pages", 0, setting.way, setting.paper))
