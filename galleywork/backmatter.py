"""Page numbers, and the contents and the index that follow a text."""

from galleywork.blocklines import height_of, page_wide, record_of, set_lines, split_cost, unit_of
from galleywork.errors import TooTall
from galleywork.numbering import insides_of, marks_of, notes_of
from galleywork.units import Matter

LEFT_OUT = ("note", "mark")


def page_numbers(way):
    """Returns the page numbers of the units, of the floats and of the note lines, three tuples."""
    found = []
    for sort in range(3):
        numbers = []
        for k in range(len(way) - 1):
            numbers.extend([k + 1] * (way[k + 1][sort] - way[k][sort]))
        found.append(tuple(numbers))
    return tuple(found)


def contents_of(matter, numbers):
    """Returns the contents of a matter, a list of pairs (head number, page)."""
    return [(n, numbers[0][first]) for n, first, _ in matter.heads]


def index_of(matter, numbers):
    """Returns the index of a matter, a list of pairs (word, pages)."""
    pages_of = {}
    for things, pages in zip((matter.units, matter.floats, matter.lines), numbers):
        for thing, page in zip(things, pages):
            for word in thing.marks:
                pages_of.setdefault(word, {})[page] = True
    return [(word, tuple(sorted(list(pages_of[word])))) for word in sorted(list(pages_of))]


def back_matter(works, resolved, contents, index):
    """Returns the matter of the contents and the index."""
    matter = Matter()
    heads = {block[1]: (k + 1, block[2]) for k, block in enumerate(resolved) if block[0] == "head"}
    for n, page in contents:
        block, inlines = heads[n]
        start = (("word", str(n) + "."), ("tie",))
        _put_entry(works, matter, start + _without_notes(inlines) + _page_words((page,)), block)
    blocks = _first_blocks(resolved)
    for word, pages in index:
        _put_entry(works, matter, (("word", word),) + _page_words(pages), blocks[word])
    return matter


def _put_entry(works, matter, inlines, block):
    """Adds the lines of an entry to the back matter."""
    sheet = works.sheet
    style = sheet.style_of("back")
    paragraph, lines = set_lines(works, "back", style.measure, inlines, block)
    for k, (line, _, _) in enumerate(lines):
        box = page_wide("unit", sheet, style, line)
        if height_of(box) > sheet.height:
            raise TooTall(block)
        matter.units.append(unit_of(style, k, split_cost(k, len(lines)), (box, (), ()), block))
    matter.records.append(record_of("back", block, paragraph))


def _without_notes(inlines):
    """Returns the inlines of a head without notes and index marks, and with gaps for its cuts."""
    found = []
    for inline in inlines:
        if inline[0] == "strong":
            found.append(("strong", _without_notes(inline[1])))
        elif inline[0] == "cut":
            found.append(("gap",))
        elif inline[0] not in LEFT_OUT:
            found.append(inline)
    return tuple(found)


def _page_words(pages):
    """Returns the inlines that show page numbers, with a gap ahead of each of them."""
    return tuple([inline for page in pages for inline in (("gap",), ("word", str(page)))])


def _first_blocks(resolved):
    """Returns the dict from the words of all index marks to the first block that has one with this word."""
    found = {}
    for k, block in enumerate(resolved):
        insides = insides_of(block) + [inlines for _, inlines in notes_of(block)]
        for inlines in insides:
            for word in marks_of(inlines):
                found.setdefault(word, k + 1)
    return found
