"""Fonts."""

from galleywork.fontcheck import check_font
from galleywork.glue import Glue


class Font:
    """The sizes of signs, their kerns and their joins."""

    def __init__(self, told):
        check_font(told)
        name, above, below, gap, signs, kerns, joins = told
        self.name = name
        self.above = above
        self.below = below
        self.gap = Glue(gap[0], gap[1], gap[2])
        self._sizes = {sign: (width, height, depth) for sign, width, height, depth in signs}
        self._kerns = {(left, right): kern for left, right, kern in kerns}
        self._joins = {(left, right): new for left, right, new in joins}
        self._widest = max([width for _, width, _, _ in signs])
        self._kern_most = max([0] + [kern for _, _, kern in kerns])

    def __contains__(self, sign):
        return sign in self._sizes

    def sizes(self, sign):
        """Returns the tuple (width, height, depth) of a sign."""
        return self._sizes[sign]

    def kern_of(self, left, right):
        """Returns the kern of two neighbouring signs."""
        return self._kerns.get((left, right), 0)

    def joined(self, left, right):
        """Returns the sign into which two neighbouring signs join, or None."""
        return self._joins.get((left, right))

    @property
    def leading(self):
        """The height of a line."""
        return self.above + self.below

    @property
    def widest(self):
        """The greatest width of a sign."""
        return self._widest

    @property
    def kern_most(self):
        """The greatest kern, or 0 if none is above 0."""
        return self._kern_most
