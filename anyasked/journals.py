"""Journals: sheets as lines of text."""

from anyasked.errors import BadJournal, BadPage, BadShare, Contrary, NoAbove, NoPart
from anyasked.kinds import is_name
from anyasked.pages import Page
from anyasked.shares import WORDS
from anyasked.sheets import Sheet


def journal(sheet):
    """The lines of the page at first, a line `told`, and a line for each deed that stands."""
    return "\n".join([sheet.first.text, "told"] + [write_deed(deed) for deed in sheet.deeds])


def read_journal(text):
    """The sheet to which was done what a journal tells."""
    if not isinstance(text, str):
        raise BadJournal(0)
    lines = text.split("\n")
    if "told" not in lines:
        raise BadJournal(len(lines) + 1)
    told = lines.index("told")
    sheet = first_sheet(lines[:told])
    for number, line in enumerate(lines[told + 1:], start=told + 2):
        if not is_done(sheet, line):
            raise BadJournal(number)
    return sheet


def first_sheet(lines):
    """The sheet of the page that these lines tell."""
    try:
        return Sheet(Page("\n".join(lines)))
    except BadPage as wrong:
        raise BadJournal(wrong.value) from None


def is_done(sheet, line):
    """Whether a line is one of a deed that is not refused; this is done then."""
    deed = read_deed(line)
    if deed is None:
        return False
    try:
        do_deed(sheet, deed)
    except (NoPart, NoAbove, BadShare, Contrary):
        return False
    return True


def do_deed(sheet, deed):
    """Does a deed to a sheet."""
    word, part, *shares = deed
    if word == "drop":
        sheet.drop(part)
    elif word == "tell":
        sheet.tell(part, shares[0])
    else:
        sheet.tell_far(part, shares[0])


def write_deed(deed):
    """The line of a deed."""
    return " ".join(["-" if word is None else str(word) for word in deed])


def read_deed(line):
    """The deed of a line, or None."""
    words = line.split(" ")
    if len(words) < 2 or not is_name(words[1]):
        return None
    if len(words) == 2 and words[0] == "drop":
        return tuple(words)
    if len(words) != 3 or words[0] not in ("tell", "far"):
        return None
    if words[2] == "-":
        return words[0], words[1], None
    share = words[2] if words[2] in WORDS else read_digits(words[2])
    if share is None:
        return None
    return words[0], words[1], share


def read_digits(word):
    """The integer that a word writes without zeros ahead, or None."""
    if not word.isascii() or not word.isdecimal():
        return None
    if word.startswith("0") and word != "0":
        return None
    return int(word)
