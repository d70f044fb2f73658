"""The solids of paragraphs, the joints between them, and index marks."""


def solids_of(style, inlines):
    """Returns the tuple (solids, joints, marks) of resolved inlines."""
    solids = []
    joints = []
    marks = []
    between = []
    for inline, font in _flat(inlines, style.font, style.strong):
        found = _solids_in(inline, font)
        if found:
            if solids:
                joints.append(_joint(between, solids[-1], found[0]))
            joints.extend([("none",)] * (len(found) - 1))
            solids.extend(found)
            between = []
        elif inline[0] == "mark":
            marks.append((max(0, len(solids) - 1), inline[1]))
        else:
            between.append((inline[0], font))
    return (tuple(solids), tuple(joints), tuple(marks))


def item_inlines(n, inlines):
    """Returns the inlines from which the item of a number is set."""
    return (("word", str(n) + "."), ("tie",)) + tuple(inlines)


def note_inlines(n, inlines):
    """Returns the inlines from which the note of a number is set."""
    return (("note", n, ()), ("tie",)) + tuple(inlines)


def _flat(inlines, font, strong):
    """Returns the list of the pairs (inline, font in force), those of a strong in its place."""
    found = []
    for inline in inlines:
        if inline[0] == "strong":
            found.extend(_flat(inline[1], strong, strong))
        else:
            found.append((inline, font))
    return found


def _solids_in(inline, font):
    """Returns the list of the solids of an inline other than a strong."""
    kind = inline[0]
    if kind == "word":
        return [("letter", font, char) for char in inline[1]]
    if kind == "formula":
        return [inline]
    if kind == "note":
        return [("note", inline[1])]
    return []


def _joint(between, left, right):
    """Returns the joint of two solids from the pairs (kind, font) of the inlines between them."""
    kinds = [kind for kind, _ in between]
    fonts = [font for kind, font in between if kind == "gap" or kind == "tie"]
    if "cut" in kinds:
        return ("cut",)
    if fonts:
        return ("tie" if "tie" in kinds else "gap", fonts[0])
    if "hyph" in kinds and left[0] == "letter" and right[0] == "letter":
        return ("hyph",)
    return ("none",)
