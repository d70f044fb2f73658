"""The rules for told fonts."""

from galleywork.chars import is_word_char
from galleywork.errors import BadFont

LENGTH_LIMIT = 1000
NAME_LIMIT = 12
SIGN_LIMIT = 8
NEEDED = "0123456789-."


def check_font(told):
    """Returns True if a told font keeps all rules."""
    name, above, below, gap, signs, kerns, joins = told
    if not _good_name(name):
        raise BadFont(name, "name")
    if not _good_length(above) or not _good_length(below) or above + below < 1:
        raise BadFont(name, "size")
    if not good_triple(gap):
        raise BadFont(name, "gap")
    if not _good_signs(signs, above, below):
        raise BadFont(name, "sign")
    widths = {row[0]: row[1] for row in signs}
    if not all([char in widths for char in NEEDED]):
        raise BadFont(name, "missing")
    if not _good_kerns(kerns, widths):
        raise BadFont(name, "kern")
    if not _good_joins(joins, widths):
        raise BadFont(name, "join")
    return True


def good_triple(triple):
    """Tells whether the three numbers of a glue are from 0 to 1000, and its shrink at most its length."""
    natural, _, shrink = triple
    return all([_good_length(length) for length in triple]) and shrink <= natural


def _good_name(name):
    """Tells whether a name is short enough and made of small letters."""
    return 1 <= len(name) <= NAME_LIMIT and all(["a" <= char <= "z" for char in name])


def _good_length(length):
    """Tells whether a length is from 0 to 1000."""
    return 0 <= length <= LENGTH_LIMIT


def _good_signs(signs, above, below):
    """Tells whether the rows of the signs keep their rule."""
    for sign, width, height, depth in signs:
        if not 1 <= len(sign) <= SIGN_LIMIT or not all([is_word_char(char) for char in sign]):
            return False
        if not 1 <= width <= LENGTH_LIMIT or not 0 <= height <= above or not 0 <= depth <= below:
            return False
    return _ascending([row[0] for row in signs])


def _good_kerns(kerns, widths):
    """Tells whether the rows of the kerns keep their rule."""
    for left, right, kern in kerns:
        if left not in widths or right not in widths:
            return False
        if kern > LENGTH_LIMIT or -2 * kern > widths[left] or -2 * kern > widths[right]:
            return False
    return _ascending([(row[0], row[1]) for row in kerns])


def _good_joins(joins, widths):
    """Tells whether the rows of the joins keep their rule."""
    for left, right, new in joins:
        if left not in widths or right not in widths or new not in widths or len(right) != 1:
            return False
    return _ascending([(row[0], row[1]) for row in joins])


def _ascending(keys):
    """Tells whether each key is greater than the one ahead of it."""
    return all([keys[k] < keys[k + 1] for k in range(len(keys) - 1)])
