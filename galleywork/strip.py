"""Strips: paragraphs that are to be broken into lines."""

from galleywork.content import pieces_glue, pieces_of
from galleywork.glue import Glue
from galleywork.places import AT_HYPHEN, place_kinds


class Strip:
    """The solids and joints of a paragraph, with the style and the measure of its lines."""

    def __init__(self, works, style, measure, solids, joints):
        self.works = works
        self.style = style
        self.measure = measure
        self.solids = solids
        self.joints = joints
        self.count = len(solids)
        self._kinds = place_kinds(works, style, measure, solids, joints)
        self._places = tuple([k for k, kind in enumerate(self._kinds) if kind is not None])

    def kind(self, k):
        """Returns the kind of a position."""
        return self._kinds[k]

    def places(self):
        """Returns the ascending tuple of the places."""
        return self._places

    def hyphened(self, j):
        """Tells whether a hyphen is put at the end of a line that ends at a place."""
        return self._kinds[j] == AT_HYPHEN and self.solids[j - 1][2] != "-"

    def content(self, i, j):
        """Returns the list of the pieces of the line from i to j."""
        return pieces_of(self.solids, self.joints, i, j, self.hyphened(j))

    def glue(self, i, j):
        """Returns the glue of the line from i to j."""
        total = pieces_glue(self.works, self.content(i, j))
        return total + Glue(self.style.indent, 0, 0) if i == 0 else total
