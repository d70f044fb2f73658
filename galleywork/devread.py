"""The drawing machine, which does the lines of device files."""

from galleywork.chars import DIGITS
from galleywork.errors import BadDevice

# For each command what its words are: n a number, c a size, f a font, s a sign, g a bracket or a root sign.
FORMS = {
    "page": "n", "font": "f", "at": "nn", "right": "n", "down": "n", "push": "", "pop": "", "put": "s", "bar": "ccc",
    "grow": "gccc",
}
GROWN = ("(", ")", "[", "]", "root")
MOST_DIGITS = 9


class Machine:
    """A drawing machine: call it with one line after another."""

    DEPTH = 60

    def __init__(self, book):
        self._book = book
        self._done = 0
        self._page = 0
        self._x = 0
        self._y = 0
        self._font = None
        self._stack = []
        self._drawn = []

    def __call__(self, line):
        words = line.split(" ")
        if not self._fits(words[0], words[1:]):
            raise BadDevice(self._done + 1)
        if words[0] in ("put", "bar", "grow"):
            self._draw(words[0], words[1:])
        else:
            self._move(words[0], words[1:])
        self._done += 1
        return True

    def ink(self):
        """Returns the list of what has been drawn so far."""
        return list(self._drawn)

    def rests(self):
        """Tells whether the stack is empty."""
        return not self._stack

    def _fits(self, command, words):
        """Tells whether a line fits."""
        form = FORMS.get(command)
        if form is None or len(form) != len(words):
            return False
        if not all([self._good_word(kind, word) for kind, word in zip(form, words)]):
            return False
        if command == "page":
            return int(words[0]) == self._page + 1 and self.rests()
        if command == "push" and len(self._stack) == self.DEPTH or command == "pop" and self.rests():
            return False
        return self._page > 0

    def _good_word(self, kind, word):
        """Tells whether a word is of a kind."""
        if kind == "n":
            return _is_number(word)
        if kind == "c":
            return _is_number(word) and word[0] != "-"
        if kind == "f":
            return self._book.has_font(word)
        if kind == "g":
            return word in GROWN
        return self._font is not None and word in self._book.font_of(self._font)

    def _move(self, command, words):
        """Does a line that changes the pen, the font or the page."""
        if command == "page":
            self._page = int(words[0])
            self._put_back((0, 0), None)
        elif command == "font":
            self._font = words[0]
        elif command == "at":
            self._x = int(words[0])
            self._y = int(words[1])
        elif command == "right":
            self._x += int(words[0])
        elif command == "down":
            self._y += int(words[0])
        elif command == "push":
            self._stack.append(((self._x, self._y), self._font))
        else:
            pen, font = self._stack.pop()
            self._put_back(pen, font)

    def _put_back(self, pen, font):
        """Sets the pen and the font in force."""
        self._x, self._y = pen
        self._font = font

    def _draw(self, command, words):
        """Does a line that draws."""
        place = (self._page, self._x, self._y)
        if command == "put":
            self._drawn.append(("sign",) + place + (self._font, words[0]))
            self._x += self._book.font_of(self._font).sizes(words[0])[0]
        elif command == "bar":
            self._drawn.append(("bar",) + place + _sizes(words))
        else:
            self._drawn.append(("grow",) + place + (words[0],) + _sizes(words[1:]))


def draw_device(book, text):
    """Returns the ink of a device file."""
    machine = Machine(book)
    lines = text.split("\n") if text else []
    for line in lines:
        machine(line)
    if not machine.rests():
        raise BadDevice(len(lines))
    return machine.ink()


def _is_number(word):
    """Tells whether a word is a number of at most nine digits."""
    if word == "0":
        return True
    digits = word[1:] if word.startswith("-") else word
    if not 1 <= len(digits) <= MOST_DIGITS or digits[0] == "0":
        return False
    return all([char in DIGITS for char in digits])


def _sizes(words):
    """Returns the tuple of the numbers that stand in words."""
    return tuple([int(word) for word in words])
