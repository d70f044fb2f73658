"""Setting a text: from its characters to the boxes of its pages."""

from galleywork.backmatter import back_matter, contents_of, index_of, page_numbers
from galleywork.build import build_matter
from galleywork.numbering import resolve
from galleywork.pagetask import PageTask
from galleywork.placed import page_boxes
from galleywork.reading import read_text
from galleywork.tails import Tails
from galleywork.works import Works


class Setting:
    """A text that is set; body and back are pairs of a matter and the solution of its page task."""

    def __init__(self, source, blocks, body, back, heads_told, marks_told, boxes):
        self.source = source
        self.blocks = blocks
        self.matter = body[0]
        self.way = body[1].way
        self.paper = body[1].paper
        self.back = back[0]
        self.back_way = back[1].way
        self.back_paper = back[1].paper
        self.heads_told = heads_told
        self.marks_told = marks_told
        self.records = _all_records("pages", body) + _all_records("backpages", back)
        self.page_boxes = boxes
        self.states = body[1].worked + back[1].worked
        self.tails = body[1].tails
        self.back_tails = back[1].tails


def page_task(sheet, matter):
    """Returns the page task of a matter."""
    units, floats, lines = matter.told()
    return PageTask(
        units, floats, lines, height=sheet.height, floats_a_page=sheet.floats, rule=sheet.rule,
        float_gap=sheet.float_gap,
    )


def set_text(works, text, tails, back_tails):
    """Returns the Setting of a text."""
    sheet = works.sheet
    blocks = read_text(text)
    resolved = resolve(blocks)
    matter = build_matter(works, resolved)
    task = page_task(sheet, matter)
    solution = tails.solved(task)
    numbers = page_numbers(solution.way)
    heads_told = contents_of(matter, numbers)
    marks_told = index_of(matter, numbers)
    back = back_matter(works, resolved, heads_told, marks_told)
    back_task = page_task(sheet, back)
    back_solution = back_tails.solved(back_task)
    boxes = page_boxes(sheet, matter, task, solution.way) + page_boxes(sheet, back, back_task, back_solution.way)
    return Setting(text, blocks, (matter, solution), (back, back_solution), heads_told, marks_told, tuple(boxes))


def fresh(sheet, text):
    """Returns the Setting of a text with nothing that was kept."""
    return set_text(Works(sheet), text, Tails.none(), Tails.none())


def _all_records(name, part):
    """Returns the list of the records of a matter and of its pages, the latter under this name."""
    matter, solution = part
    return matter.records + [(name, 0, solution.way, solution.paper)]
