"""A desk: a sheet that is asked, and changed, line by line."""

from anyasked.errors import BadLine, NoPart
from anyasked.journals import do_deed, read_deed, read_digits, read_journal
from anyasked.kinds import is_name
from anyasked.ranges import ratio
from anyasked.totals import can, step


class Desk:
    """A desk: the sheet of a journal."""

    def __init__(self, text):
        self._sheet = read_journal(text)

    @property
    def sheet(self):
        """The sheet."""
        return self._sheet

    def say(self, line):
        """The answer to a line."""
        if not isinstance(line, str):
            raise BadLine(line)
        deed = read_deed(line)
        if deed is not None:
            do_deed(self._sheet, deed)
            return "ok"
        word, *more = line.split(" ")
        answer = answer_to(self._sheet, word, more)
        if answer is None:
            raise BadLine(line)
        return answer


def answer_to(sheet, word, more):
    """The answer to the words of a line that is no deed's, None if there is no such line."""
    if not more:
        return answer_to_one(sheet, word)
    if word == "asked" and len(more) == 1:
        return answer_to_total(sheet, read_digits(more[0]))
    if not all([is_name(name) for name in more]):
        return None
    if word == "part" and len(more) == 1:
        return part_line(sheet, more[0])
    if word == "more" and len(more) == 2:
        return more_line(sheet, more[0], more[1])
    if word == "range" and len(more) == 2:
        return range_line(sheet, more[0], more[1])
    return None


def answer_to_one(sheet, word):
    """The answer to a line of one word, None if there is no such line."""
    if word == "undo":
        sheet.undo()
        return "ok"
    if word == "redo":
        sheet.redo()
        return "ok"
    if word == "step":
        return str(step(sheet.page))
    return None


def answer_to_total(sheet, total):
    """Whether so many can have been asked; None for no number."""
    if total is None:
        return None
    return can(sheet.page, total)[0]


def part_line(sheet, part):
    """What is told of a part."""
    above, share, far = sheet[part]
    return " ".join(["-" if told is None else str(told) for told in (share, far)])


def more_line(sheet, one, other):
    """Whether more are in one part than in another one."""
    if one not in sheet:
        raise NoPart(one)
    if other not in sheet or other == one:
        raise NoPart(other)
    return sheet.judged((tuple(sorted([(one, 1), (other, -1)])), "more"))


def range_line(sheet, one, other):
    """The least and the greatest share of one part in another one."""
    low, high = ratio(sheet.page, one, other)
    return f"{bound_word(low)} {bound_word(high)}"


def bound_word(bound):
    """A bound as a word."""
    if bound[0] == ():
        return "-"
    (over, under), is_reached = bound[:2]
    return f"{over}/{under}" if is_reached else f"{over}/{under}!"
