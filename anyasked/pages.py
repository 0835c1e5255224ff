"""Pages: the text that tells parts and their shares."""

from anyasked.errors import BadPage, BadShare, NoAbove, NoPart
from anyasked.kinds import is_name, read_number
from anyasked.shares import WORDS, is_share, is_units

MOST_PARTS = 9
MOST_STEPS = 3
MOST_ENDS = 6
MARKS = ((), ("is",), ("all",), ("is", "all"))


class Page:
    """A page: units, and parts with their shares of the part above and of the first part."""

    def __init__(self, text):
        units, lines = read_page(text)
        self._text = text
        self._units = units
        self._lines = lines
        self._ends = ends_among(lines)

    @property
    def text(self):
        """The lines of the page."""
        return self._text

    @property
    def units(self):
        """(b, how)."""
        return self._units

    @property
    def parts(self):
        """The names of all parts, in sequence."""
        return tuple(self._lines)

    @property
    def ends(self):
        """The names of the parts with none beneath, in sequence."""
        return self._ends

    def __len__(self):
        return len(self._lines)

    def __contains__(self, x):
        return isinstance(x, str) and x in self._lines

    def __getitem__(self, at):
        if at not in self:
            raise NoPart(at)
        return self._lines[at]

    def __iter__(self):
        raise TypeError("a page is not gone over: take its parts")

    def __eq__(self, other):
        return isinstance(other, Page) and self._text == other._text

    def beneath(self, part):
        """The parts whose lines tell this one as that above."""
        if part not in self:
            raise NoPart(part)
        return tuple([name for name in self._lines if self._lines[name][0] == part])

    def ends_of(self, part):
        """The ends that belong to a part."""
        if part not in self:
            raise NoPart(part)
        return tuple([end for end in self._ends if part in way_up(self._lines, end)])

    def told(self, part, share):
        """The page with this share of the part above; None: not told."""
        above, _, far = self._line_to_change(part, share)
        return self._changed(part, (above, share, far))

    def told_far(self, part, share):
        """The page with this share of the first part; None: not told."""
        above, near, _ = self._line_to_change(part, share)
        return self._changed(part, (above, near, share))

    def _line_to_change(self, part, share):
        line = self[part]
        if line[0] is None:
            raise NoAbove(part)
        if share is not None and not is_share(self._units, share):
            raise BadShare(share)
        return line

    def _changed(self, part, line):
        lines = dict(self._lines)
        lines[part] = line
        return Page(write_page(self._units, lines))


def way_up(lines, part):
    """A part, that above it, and so on to the first one."""
    way = [part]
    while lines[way[-1]][0] is not None:
        way.append(lines[way[-1]][0])
    return way


def ends_among(lines):
    """The parts with none beneath, in sequence."""
    wholes = [line[0] for line in lines.values()]
    return tuple([part for part in lines if part not in wholes])


def read_page(text):
    """The units, and for each part its line: (above, share, far)."""
    if not isinstance(text, str):
        raise BadPage(0)
    rows = [row.split(" ") for row in text.split("\n")]
    units = read_units(rows[0])
    if units is None:
        raise BadPage(1)
    if len(rows) < 2 or not is_asked(rows[1]):
        raise BadPage(2)
    if len(rows) < 3:
        raise BadPage(3)
    return units, read_parts(units, rows[1][1], rows[2:])


def read_units(words):
    """The units of a line `in B HOW`, or None."""
    if len(words) != 3 or words[0] != "in":
        return None
    units = (read_number(words[1], 100), words[2])
    if not is_units(units):
        return None
    return units


def is_asked(words):
    """Whether these are the words of a line `asked NAME`."""
    return len(words) == 2 and words[0] == "asked" and is_name(words[1])


def read_parts(units, first, rows):
    """The lines of the first part and of those told in these rows, from the third line on."""
    lines = {first: (None, None, None)}
    for number, words in enumerate(rows, start=3):
        line = read_part(units, lines, words)
        if line is None:
            raise BadPage(number)
        part = words[1]
        lines[part] = line
        if is_too_much(lines, part):
            raise BadPage(number)
    return lines


def read_part(units, lines, words):
    """(above, share, far) of a line `part NAME of OTHER` beneath these lines, or None."""
    if len(words) < 4 or words[0] != "part" or words[2] != "of":
        return None
    part, above = words[1], words[3]
    if not is_name(part) or part in lines or above not in lines:
        return None
    marks = tuple(words[4::2])
    shares = [read_share(units, word) for word in words[5::2]]
    if marks not in MARKS or len(shares) != len(marks) or None in shares:
        return None
    told = dict(zip(marks, shares))
    return above, told.get("is"), told.get("all")


def read_share(units, word):
    """The share that a word writes, or None."""
    if word in WORDS:
        return word
    return read_number(word, units[0])


def is_too_much(lines, part):
    """Whether a page holds no longer what these lines tell, part being the last one."""
    if len(lines) > MOST_PARTS + 1 or len(ends_among(lines)) > MOST_ENDS:
        return True
    return len(way_up(lines, part)) > MOST_STEPS + 1


def write_page(units, lines):
    """The text of a page."""
    base, how = units
    rows = [f"in {base} {how}"]
    for part in lines:
        rows.append(write_line(part, lines[part]))
    return "\n".join(rows)


def write_line(part, line):
    """The text of the line of a part, or of the first one."""
    above, share, far = line
    if above is None:
        return f"asked {part}"
    row = f"part {part} of {above}"
    if share is not None:
        row = f"{row} is {share}"
    if far is not None:
        row = f"{row} all {far}"
    return row
