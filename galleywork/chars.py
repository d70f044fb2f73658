"""The characters of a text."""

LETTERS = "abcdefghijklmnopqrstuvwxyzABCDEFGHIJKLMNOPQRSTUVWXYZ"
DIGITS = "0123456789"
SPECIAL = "\\{}$~#&^_"
WORD_CHARS = LETTERS + DIGITS + "!\"'()*+,-./:;<=>?@[]`|"

SIGN_KINDS = {
    "+": "oper", "-": "oper", "*": "oper", "/": "oper",
    "=": "rel", "<": "rel", ">": "rel",
    "(": "open", "[": "open",
    ")": "shut", "]": "shut",
    ",": "comma", ";": "comma",
}


def is_word_char(char):
    """Tells whether a character is a word character."""
    return char in WORD_CHARS


def is_letter(char):
    """Tells whether a character is a letter."""
    return char in LETTERS


def is_digit(char):
    """Tells whether a character is a digit."""
    return char in DIGITS


def sign_kind(char):
    """Returns the kind that a word character has in a formula."""
    return SIGN_KINDS.get(char, "plain")
