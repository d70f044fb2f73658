"""Desks: galleys with names."""

from galleywork.errors import BadDeed, GalleyError, NoText
from galleywork.galleys import Galley
from galleywork.kept import Kept

# For each deed what stands behind its name: t a text, n an integer.
FORMS = {"put": "tt", "edit": "tnnt", "undo": "t", "redo": "t", "drop": "t"}


class Desk:
    """Galleys with names, which share what is kept."""

    def __init__(self, sheet):
        self._sheet = sheet
        self._kept = Kept(sheet)
        self._galleys = {}

    def put(self, name, text):
        """Makes a galley, or replaces the whole text of the galley of this name, and returns its work."""
        if name in self._galleys:
            return self._galleys[name].put_text(text)
        galley = Galley(self._sheet, text, kept=self._kept)
        self._galleys[name] = galley
        return galley.work()

    def edit(self, name, at, *, cut=0, put=""):
        """Edits the text of a galley, and returns its work."""
        return self.galley(name).edit(at, cut=cut, put=put)

    def undo(self, name):
        """Undoes the last edit of a galley, and tells whether there is one."""
        return self.galley(name).undo()

    def redo(self, name):
        """Redoes what was undone last in a galley, and tells whether there is anything."""
        return self.galley(name).redo()

    def drop(self, name):
        """Removes a galley, and returns its text."""
        galley = self.galley(name)
        del self._galleys[name]
        return galley.text

    def galley(self, name):
        """Returns the galley of a name."""
        if name not in self._galleys:
            raise NoText(name)
        return self._galleys[name]

    def names(self):
        """Returns the ascending list of the names."""
        return sorted(list(self._galleys))

    def batch(self, deeds):
        """Does all deeds or none, and returns the list of what they return."""
        for k, deed in enumerate(deeds):
            if not _is_deed(deed):
                raise BadDeed(k + 1)
        stand = self._kept.stand()
        held = [(name, galley, galley.held()) for name, galley in self._galleys.items()]
        try:
            return [self._do(deed) for deed in deeds]
        except GalleyError:
            self._galleys = {name: galley for name, galley, _ in held}
            for _, galley, state in held:
                galley.hold(state)
            self._kept.back_to(stand)
            raise

    def _do(self, deed):
        """Does a deed, and returns what the call of its name returns."""
        what, name = deed[:2]
        if what == "put":
            return self.put(name, deed[2])
        if what == "edit":
            return self.edit(name, deed[2], cut=deed[3], put=deed[4])
        if what == "undo":
            return self.undo(name)
        if what == "redo":
            return self.redo(name)
        return self.drop(name)


def _is_deed(deed):
    """Tells whether a value is a deed."""
    if not isinstance(deed, tuple) or not deed or not isinstance(deed[0], str) or deed[0] not in FORMS:
        return False
    form = FORMS[deed[0]]
    if len(deed) != len(form) + 1:
        return False
    return all([_fits(kind, word) for kind, word in zip(form, deed[1:])])


def _fits(kind, value):
    """Tells whether a value may stand in a deed where a text or an integer is asked for."""
    if kind == "t":
        return isinstance(value, str)
    return isinstance(value, int) and not isinstance(value, bool)
