"""The task of breaking a paragraph into lines, with widths that are added up beforehand."""

from galleywork.content import box_of, is_gap, same_word
from galleywork.glue import Glue
from galleywork.linetask import LineTask, line_cost
from galleywork.places import AT_CUT, AT_END, AT_GAP

CHUNK_ENDS = (AT_GAP, AT_CUT, AT_END)


class QuickLineTask(LineTask):
    """A line task that finds the glue of each line by a few additions."""

    def __init__(self, strip):
        super().__init__(strip)
        self._sums = Sums(strip)
        self._behind = {0: 0}
        for k, place in enumerate(strip.places()):
            self._behind[place] = k + 1

    def lines_from(self, i):
        """Returns the list of the tuples (j, class, cost) of the lines from i, ascending by j."""
        strip = self._strip
        places = strip.places()
        found = []
        tail = self._sums.tail(i)
        for k in range(self._behind[i], len(places)):
            j = places[k]
            glue = self._sums.line_glue(i, j, tail)
            line = line_cost(strip, i, j, glue)
            if line is not None:
                found.append((j, line[0], line[1]))
            elif strip.kind(j) in CHUNK_ENDS or glue.least > self._sums.beyond:
                # A longer line has all pieces of this one and more, except that joins may take the last sign away.
                break
            if strip.kind(j) == AT_CUT:
                break
        return found


class Sums:
    """The widths of the words and other pieces of a strip, and the glues of all that stands ahead of each piece."""

    def __init__(self, strip):
        self.beyond = strip.measure + _slop(strip)
        self._strip = strip
        self._run_of = []
        self._starts = []
        self._widths = []
        self._ahead = []
        total = Glue.zero()
        for low, high in _runs(strip.solids, strip.joints):
            if low > 0 and is_gap(strip.joints[low - 1]):
                total = total + strip.works.book.font_of(strip.joints[low - 1][1]).gap
            widths = _widths_from(strip, low, high, None)
            self._run_of.extend([len(self._starts)] * (high - low))
            self._starts.append(low)
            self._widths.append(widths)
            self._ahead.append(total)
            total = total + Glue(widths[-1][0], 0, 0)

    def tail(self, i):
        """Returns the widths of the piece that is left behind position i, as far as lines may reach."""
        if i == self._strip.count:
            return []
        run = self._run_of[i]
        low = self._starts[run]
        high = low + len(self._widths[run])
        return self._widths[run] if i == low else _widths_from(self._strip, i, high, self.beyond)

    def line_glue(self, i, j, tail):
        """Returns the glue of the line from i to j; tail is the tail of i.

        Where the tail does not reach as far as the line, the glue is less, but still far beyond what fits.
        """
        indent = self._strip.style.indent if i == 0 else 0
        first = self._run_of[i]
        last = self._run_of[j - 1]
        if first == last:
            width = tail[j - i - 1][1] if j - i <= len(tail) else tail[-1][0]
            return Glue(indent + width, 0, 0)
        ahead = self._ahead[first]
        upto = self._ahead[last]
        # The first piece may have lost letters ahead of i, and with them kerns and joins.
        lost = self._widths[first][-1][0] - tail[-1][0]
        ended = self._widths[last][j - self._starts[last] - 1][1]
        natural = indent + upto.natural - ahead.natural - lost + ended
        return Glue(natural, upto.stretch - ahead.stretch, upto.shrink - ahead.shrink)


def _slop(strip):
    """Returns a length that a last sign and a hyphen behind it, with their kerns, do not exceed."""
    names = {solid[1]: True for solid in strip.solids if solid[0] == "letter"}
    fonts = [strip.works.book.font_of(name) for name in names]
    return max([0] + [2 * (font.widest + font.kern_most) for font in fonts])


def _runs(solids, joints):
    """Returns the list of the pairs (first position, last position) of words and other solids."""
    if not solids:
        return []
    edges = [k for k in range(1, len(solids)) if not same_word(solids, joints, k)]
    return list(zip([0] + edges, edges + [len(solids)]))


def _widths_from(strip, low, high, beyond):
    """Returns for each position behind low, up to high, the pair of widths of what stands between the two.

    The first width is that inside of a line, the second one that at its end, with the hyphen that is put there.
    Behind the first width that is above beyond, if that is a number, no more are added.
    """
    solid = strip.solids[low]
    if solid[0] != "letter":
        width = box_of(strip.works, solid)[1]
        return [(width, width)]
    font = strip.works.book.font_of(solid[1])
    found = []
    state = (0, None, None)
    for k in range(low, high):
        state = _with_letter(font, state, strip.solids[k][2])
        ended = _with_letter(font, state, "-") if strip.hyphened(k + 1) else state
        found.append((_width(font, state), _width(font, ended)))
        if beyond is not None and found[-1][0] > beyond:
            break
    return found


def _with_letter(font, state, letter):
    """Returns the state of a word with one more letter.

    A state has the width of all signs but the last one, the last sign but one, and the last sign.
    """
    width, before, sign = state
    if sign is None:
        return (0, None, letter)
    new = font.joined(sign, letter)
    if new is not None:
        return (width, before, new)
    return (_width(font, state), sign, letter)


def _width(font, state):
    """Returns the width of a word in a state."""
    width, before, sign = state
    kern = 0 if before is None else font.kern_of(before, sign)
    return width + kern + font.sizes(sign)[0]
