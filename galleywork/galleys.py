"""Galleys: texts that are edited."""

from galleywork.devwrite import device_text
from galleywork.errors import BadEdit, GalleyError
from galleywork.kept import Kept
from galleywork.setting import set_text
from galleywork.tails import Tails


class Galley:
    """A text that its sheet accepts, with what it takes to edit it."""

    UNDO_LIMIT = 20

    def __init__(self, sheet, text="", *, kept=None):
        self._kept = Kept(sheet) if kept is None else kept
        self._undo_texts = ()
        self._redo_texts = ()
        self._set(text, Tails.none(), Tails.none())

    @property
    def text(self):
        """The current text."""
        return self._setting.source

    @property
    def page_count(self):
        """The number of pages."""
        return len(self._setting.page_boxes)

    def __iter__(self):
        return iter(self._setting.page_boxes)

    def edit(self, at, *, cut=0, put=""):
        """Puts a string in the place of some characters of the text, and returns the work."""
        text = self.text
        if not 0 <= at <= len(text):
            raise BadEdit("at")
        if not 0 <= cut <= len(text) - at:
            raise BadEdit("cut")
        return self.put_text(text[:at] + put + text[at + cut:])

    def put_text(self, text):
        """Replaces the whole text, and returns the work."""
        before = self.text
        self._set_again(text)
        self._undo_texts = (self._undo_texts + (before,))[-self.UNDO_LIMIT:]
        self._redo_texts = ()
        return self.work()

    def undo(self):
        """Goes back to the text before the last edit, and tells whether there is one."""
        if not self._undo_texts:
            return False
        before = self.text
        self._set_again(self._undo_texts[-1])
        self._undo_texts = self._undo_texts[:-1]
        self._redo_texts = self._redo_texts + (before,)
        return True

    def redo(self):
        """Goes back to the text before the last undo, and tells whether there is one."""
        if not self._redo_texts:
            return False
        before = self.text
        self._set_again(self._redo_texts[-1])
        self._redo_texts = self._redo_texts[:-1]
        self._undo_texts = self._undo_texts + (before,)
        return True

    def work(self):
        """Returns the numbers of paragraphs, displays, formulas and states of the last setting."""
        return self._work

    def pages(self):
        """Returns the list of the page boxes."""
        return list(self._setting.page_boxes)

    def papers(self):
        """Returns the list of the records."""
        return list(self._setting.records)

    def contents(self):
        """Returns the contents."""
        return list(self._setting.heads_told)

    def index_rows(self):
        """Returns the index."""
        return list(self._setting.marks_told)

    def device(self):
        """Returns the device file of the pages."""
        return device_text(self._setting.page_boxes)

    def held(self):
        """Returns the state of the galley."""
        return (self._setting, self._work, self._undo_texts, self._redo_texts)

    def hold(self, state):
        """Puts back a state."""
        self._setting, self._work, self._undo_texts, self._redo_texts = state

    def _set_again(self, text):
        """Sets another text with what is known of the last one."""
        self._set(text, self._setting.tails, self._setting.back_tails)

    def _set(self, text, tails, back_tails):
        """Sets a text; if it is refused, nothing is changed and nothing more is kept."""
        stand = self._kept.stand()
        try:
            setting = set_text(self._kept, text, tails, back_tails)
        except GalleyError:
            self._kept.back_to(stand)
            raise
        self._setting = setting
        self._work = self._kept.worked_since(stand) + (setting.states,)
