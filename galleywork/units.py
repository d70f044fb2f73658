"""Units, floats and note lines: what the pages of a text hold."""

MUST = -1
NEED = 30000


class Unit:
    """A line of a paragraph or a display, or a row of a table."""

    def __init__(self, height, gap, cost, box, notes, marks, block):
        self.height = height
        self.gap = gap
        self.cost = cost
        self.box = box
        self.notes = notes
        self.marks = marks
        self.block = block

    def told(self):
        """Returns the tuple (height, gap, cost), with the three numbers of the gap."""
        return (self.height, self.gap.plain(), self.cost)


class FloatUnit:
    """A block of a given height with its caption."""

    def __init__(self, height, behind, box, marks, block, number):
        self.height = height
        self.behind = behind
        self.box = box
        self.marks = marks
        self.block = block
        self.number = number

    def told(self):
        """Returns the tuple (height, behind)."""
        return (self.height, self.behind)


class NoteLine:
    """A line of a note."""

    def __init__(self, height, opens, behind, box, marks, block, number):
        self.height = height
        self.opens = opens
        self.behind = behind
        self.box = box
        self.marks = marks
        self.block = block
        self.number = number

    def told(self):
        """Returns the tuple (height, opens, behind)."""
        return (self.height, self.opens, self.behind)


class Matter:
    """All that the pages of a text hold, with the records of what was set and the places of the heads."""

    def __init__(self):
        self.units = []
        self.floats = []
        self.lines = []
        self.records = []
        self.heads = []

    def told(self):
        """Returns the told tuples of the units, of the floats and of the note lines."""
        return (
            tuple([unit.told() for unit in self.units]),
            tuple([one.told() for one in self.floats]),
            tuple([line.told() for line in self.lines]),
        )
