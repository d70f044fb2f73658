"""Shaping: the signs that stand for letters, their widths, and the boxes of words."""

from galleywork.boxes import sign_box


def shape(font, letters):
    """Returns the list of the pairs (sign, letters that it stands for) of a string."""
    pairs = []
    for letter in letters:
        new = font.joined(pairs[-1][0], letter) if pairs else None
        if new is None:
            pairs.append((letter, letter))
        else:
            pairs[-1] = (new, pairs[-1][1] + letter)
    return pairs


def width_of(font, signs):
    """Returns the width of a row of signs with their kerns."""
    places = _places(font, signs)
    return places[-1] + font.sizes(signs[-1])[0] if signs else 0


def word_box(font, letters, kind="word"):
    """Returns the word box of a string."""
    pairs = shape(font, letters)
    signs = [sign for sign, _ in pairs]
    boxes = [sign_box(font, sign, meant) for sign, meant in pairs]
    h = max([0] + [box[2] for box in boxes])
    d = max([0] + [box[3] for box in boxes])
    parts = [(x, 0, box) for x, box in zip(_places(font, signs), boxes)]
    return (kind, width_of(font, signs), h, d, tuple(parts))


def _places(font, signs):
    """Returns the list of the places at which the signs of a row begin."""
    places = []
    x = 0
    for k, sign in enumerate(signs):
        if k > 0:
            x += font.sizes(signs[k - 1])[0] + font.kern_of(signs[k - 1], sign)
        places.append(x)
    return places
