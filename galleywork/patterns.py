"""Patterns and exceptions, which tell where words may be broken."""

from galleywork.chars import is_digit
from galleywork.errors import BadPattern

PATTERN_LIMIT = 20
EXCEPTION_LIMIT = 60


class Patterns:
    """Checked patterns and exceptions."""

    def __init__(self, patterns, exceptions):
        self._digits = {}
        self._places = {}
        self._longest = 0
        self._read_patterns(patterns)
        self._read_exceptions(exceptions)

    def points(self, word):
        """Returns the list of the places where a word may be broken."""
        small = word.lower()
        if small in self._places:
            return list(self._places[small])
        digits = self._greatest_digits("." + small + ".")
        # The period shifts the gap behind the k-th letter to the place k + 1.
        return [k for k in range(2, len(small) - 2) if digits[k + 1] % 2 == 1]

    def _read_patterns(self, patterns):
        """Checks patterns, and keeps the digits for the gaps of their letters and periods."""
        seen = {}
        for pattern in patterns:
            if pattern in seen or not _good_pattern(pattern):
                raise BadPattern(pattern)
            seen[pattern] = True
            chars, digits = _taken_apart(pattern)
            known = self._digits.get(chars, [0] * len(digits))
            self._digits[chars] = [max(one, two) for one, two in zip(known, digits)]
            self._longest = max(self._longest, len(chars))

    def _read_exceptions(self, exceptions):
        """Checks exceptions, and keeps their places."""
        for exception in exceptions:
            word = exception.replace("-", "")
            if word in self._places or not _good_exception(exception):
                raise BadPattern(exception)
            self._places[word] = _hyphen_places(exception)

    def _greatest_digits(self, chars):
        """Returns for each character the greatest digit that counts for the gap ahead of it."""
        greatest = [0] * (len(chars) + 1)
        for begin in range(len(chars)):
            for end in range(begin + 1, min(begin + self._longest, len(chars)) + 1):
                digits = self._digits.get(chars[begin:end], [])
                for k, digit in enumerate(digits):
                    greatest[begin + k] = max(greatest[begin + k], digit)
        return greatest


def _good_pattern(pattern):
    """Tells whether a pattern is short enough and has the form of a pattern."""
    inside = pattern.removeprefix(".").removesuffix(".")
    letters = [char for char in inside if not is_digit(char)]
    # A digit beside a digit would stand twice at the same gap.
    doubled = [k for k in range(len(inside) - 1) if is_digit(inside[k]) and is_digit(inside[k + 1])]
    return len(pattern) <= PATTERN_LIMIT and letters != [] and _all_small(letters) and doubled == []


def _good_exception(exception):
    """Tells whether an exception is short enough and has the form of an exception."""
    parts = exception.split("-")
    return len(exception) <= EXCEPTION_LIMIT and all([part != "" and _all_small(part) for part in parts])


def _all_small(chars):
    """Tells whether all characters are small letters."""
    return all(["a" <= char <= "z" for char in chars])


def _taken_apart(pattern):
    """Returns the letters and periods of a pattern, and the digit of each gap ahead of and behind them."""
    chars = ""
    digits = [0]
    for char in pattern:
        if is_digit(char):
            digits[-1] = int(char)
        else:
            chars += char
            digits.append(0)
    return chars, digits


def _hyphen_places(exception):
    """Returns the list of the numbers of letters ahead of each hyphen."""
    places = []
    letters = 0
    for char in exception:
        if char == "-":
            places.append(letters)
        else:
            letters += 1
    return places
