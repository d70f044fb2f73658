"""Numbers of heads, items, floats, notes and labels, and the blocks that carry them."""

COUNTED = ("head", "item", "float")


def label_numbers(blocks):
    """Returns the dict from the names of the labels to their numbers."""
    numbers = {}
    last_head = 0
    notes = 0
    for block, own in zip(blocks, _own_numbers(blocks)):
        if block[0] == "head":
            last_head = own
        number = own if block[0] in COUNTED else last_head
        for inlines in insides_of(block):
            found, notes = _labels_in(inlines, number, notes)
            for name, label_number in found:
                numbers[name] = label_number
    return numbers


def resolve(blocks):
    """Returns the list of the resolved blocks."""
    resolver = Resolver(label_numbers(blocks))
    return [resolver.with_numbers(block, own) for block, own in zip(blocks, _own_numbers(blocks))]


def notes_of(block):
    """Returns the list of the pairs (n, inlines) of the notes of a resolved block."""
    return [note for inlines in insides_of(block) for note in _notes_in(inlines)]


def marks_of(inlines):
    """Returns the list of the words of the index marks among inlines, without those of notes."""
    words = []
    for inline in inlines:
        if inline[0] == "mark":
            words.append(inline[1])
        elif inline[0] == "strong":
            words.extend(marks_of(inline[1]))
    return words


def insides_of(block):
    """Returns the list of the tuples of inlines of a block, resolved or not, in their order."""
    kind = block[0]
    if kind == "display" or kind == "newpage":
        return []
    if kind == "table":
        return [cell for row in block[2] for cell in row]
    return [block[-1]]


class Resolver:
    """Puts numbers into blocks, one block after another."""

    def __init__(self, labels):
        self._labels = labels
        self._notes = 0

    def with_numbers(self, block, own):
        """Returns a resolved block; own is its own number, if blocks of its kind have one."""
        kind = block[0]
        if kind == "par" or kind == "quote":
            return (kind, self._resolved(block[1]))
        if kind == "head" or kind == "item":
            return (kind, own, self._resolved(block[1]))
        if kind == "float":
            return (kind, own, block[1], self._resolved(block[2]))
        if kind == "table":
            return (kind, block[1], tuple([tuple([self._resolved(cell) for cell in row]) for row in block[2]]))
        return block

    def _resolved(self, inlines):
        """Returns resolved inlines."""
        found = []
        for inline in inlines:
            kind = inline[0]
            if kind == "ref":
                found.append(("word", str(self._labels[inline[1]])))
            elif kind == "note":
                self._notes += 1
                found.append(("note", self._notes, self._resolved(inline[1])))
            elif kind == "strong":
                found.append(("strong", self._resolved(inline[1])))
            elif kind != "label":
                found.append(inline)
        return tuple(found)


def _own_numbers(blocks):
    """Returns for each block the number of its head, item or float, 0 for others."""
    numbers = []
    heads = 0
    items = 0
    floats = 0
    for block in blocks:
        kind = block[0]
        items = items + 1 if kind == "item" else 0
        if kind == "head":
            heads += 1
            numbers.append(heads)
        elif kind == "float":
            floats += 1
            numbers.append(floats)
        else:
            numbers.append(items)
    return numbers


def _labels_in(inlines, number, notes):
    """Returns the pairs (name, number) of the labels among inlines, and the number of the last note."""
    found = []
    for inline in inlines:
        kind = inline[0]
        if kind == "label":
            found.append((inline[1], number))
        elif kind == "note":
            notes += 1
            inner, _ = _labels_in(inline[1], notes, notes)
            found.extend(inner)
        elif kind == "strong":
            inner, notes = _labels_in(inline[1], number, notes)
            found.extend(inner)
    return found, notes


def _notes_in(inlines):
    """Returns the list of the pairs (n, inlines) of the notes among resolved inlines."""
    found = []
    for inline in inlines:
        if inline[0] == "note":
            found.append((inline[1], inline[2]))
        elif inline[0] == "strong":
            found.extend(_notes_in(inline[1]))
    return found
