"""Glues: lengths that can change."""


class Glue:
    """A natural length, its stretch and its shrink."""

    def __init__(self, natural, stretch, shrink):
        self.natural = natural
        self.stretch = stretch
        self.shrink = shrink

    @staticmethod
    def zero():
        """Returns the glue without any length."""
        return Glue(0, 0, 0)

    def __add__(self, other):
        return Glue(self.natural + other.natural, self.stretch + other.stretch, self.shrink + other.shrink)

    def __eq__(self, other):
        return (isinstance(other, Glue) and self.natural == other.natural and self.stretch == other.stretch
                and self.shrink == other.shrink)

    @property
    def least(self):
        """The least length."""
        return self.natural - self.shrink

    def plain(self):
        """Returns the three numbers as a tuple."""
        return (self.natural, self.stretch, self.shrink)
