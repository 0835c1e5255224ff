"""Point 15: journals."""

import random
import re
import unittest

from anyasked.errors import AskedError, BadJournal
from anyasked.journals import journal, read_journal
from anyasked.pages import Page
from anyasked.possible import possible
from anyasked.sheets import Sheet
from tests.anyvalues import Refusals, any_values
from tests.countedpages import any_page, counted_page
from tests.pagetexts import EXAMPLE, first_bad_line
from tests.test_sheets import random_deed, state

_DEED = re.compile("(?:(tell|far) ([a-z]{1,8}) (0|[1-9][0-9]*|none|some|-)|drop ([a-z]{1,8}))")


def first_bad(text):
    """The number that BadJournal is to have for a string, None if it is a journal: by pages, line by line."""
    lines = text.split("\n")
    if "told" not in lines:
        return len(lines) + 1
    told = lines.index("told")
    wrong = first_bad_line("\n".join(lines[:told]))
    if wrong is not None:
        return wrong
    page = Page("\n".join(lines[:told]))
    for number in range(told + 1, len(lines)):
        found = _DEED.fullmatch(lines[number])
        if found is None:
            return number + 1
        part = found[2] or found[4]
        if part not in page.parts[1:]:
            return number + 1
        if found[4]:
            page = page.told(part, None).told_far(part, None)
        else:
            share = {"-": None, "none": "none", "some": "some"}.get(found[3], found[3])
            if share not in (None, "none", "some"):
                share = int(share)
                if share > page.units[0]:
                    return number + 1
            page = (page.told if found[1] == "tell" else page.told_far)(part, share)
        if possible(page)[0] == "never":
            return number + 1
    return None


def random_sheet(chance, page=None):
    """A sheet to which something was done at random, and the lines of the deeds that stand."""
    page = page or (counted_page(chance, told=0.3)[0] if chance.random() < 0.8 else any_page(chance))
    sheet, lines = Sheet(page), []
    for _ in range(chance.randint(0, 7)):
        name, args = random_deed(chance, sheet)
        try:
            getattr(sheet, name)(*args)
        except AskedError:
            continue
        word = {"drop": "drop", "tell_far": "far"}.get(name, "tell")
        lines.append(" ".join([word] + ["-" if one is None else str(one) for one in args]))
        if chance.random() < 0.2:
            sheet.undo()
            lines.pop()
    return sheet, lines


class JournalCase(unittest.TestCase, Refusals):
    def check(self, text):
        """read_journal tells of a string just what the tests tell by themselves."""
        number = first_bad(text)
        if number is None:
            self.assertIsInstance(read_journal(text), Sheet)
        else:
            self.refuses_line(BadJournal, number, read_journal, text)
        return number


class JournalTest(JournalCase):
    def test_by_hand(self):
        sheet = Sheet(Page(EXAMPLE))
        self.assertEqual(journal(sheet), EXAMPLE + "\ntold")
        sheet.tell("open", 24)
        sheet.tell_far("old", 16)
        sheet["open"] = None
        sheet.drop("young")
        sheet.tell_far("old", None)
        sheet.tell("young", "some")
        sheet.undo()
        told = ["told", "tell open 24", "far old 16", "tell open -", "drop young", "far old -"]
        self.assertEqual(journal(sheet=sheet), "\n".join([EXAMPLE] + told))
        back = read_journal(text=journal(sheet))
        self.assertEqual((back, back.done, journal(back)), (sheet, 5, journal(sheet)))

    def test_what_was_written_is_read_back(self):
        chance = random.Random(171)
        deeds = 0
        for _ in range(150):
            sheet, lines = random_sheet(chance)
            text = journal(sheet)
            self.assertEqual(text, "\n".join([sheet.first.text, "told"] + lines))
            back = read_journal(text)
            self.assertEqual((back, back.first, back.page), (sheet, sheet.first, sheet.page))
            self.assertEqual((back.done, len(back), journal(back)), (sheet.done, len(sheet), text))
            own = [one for one in state(sheet) if one.__class__ is not tuple or one[0] != "redo"]
            self.assertEqual(state(back), own)
            deeds += sheet.done
        self.assertGreater(deeds, 150)

    def test_what_was_taken_back_is_not_written(self):
        sheet = Sheet(Page(EXAMPLE))
        sheet.tell("open", 24)
        sheet.undo()
        self.assertEqual(journal(sheet), EXAMPLE + "\ntold")
        with sheet.trial():
            sheet.tell("open", 25)
            self.assertEqual(journal(sheet), EXAMPLE + "\ntold\ntell open 25")
        self.assertEqual(journal(sheet), EXAMPLE + "\ntold")
        sheet.redo()
        self.assertEqual(journal(sheet), EXAMPLE + "\ntold\ntell open 24")

    def test_what_was_done_again_is_written(self):
        sheet = Sheet(Page(EXAMPLE))
        sheet.tell("open", 24)
        sheet.tell_far("old", 16)
        sheet.drop("no")
        text = journal(sheet)
        self.assertEqual(text.split("\n")[7:], ["told", "tell open 24", "far old 16", "drop no"])
        for many in (1, 2, 3):
            for _ in range(many):
                sheet.undo()
            self.assertEqual(journal(sheet), "\n".join(text.split("\n")[:-many]))
            other = sheet.copy()
            for _ in range(many):
                sheet.redo()
                other.redo()
            self.assertEqual((journal(sheet), journal(other)), (text, text))

    def test_parts_called_by_words_of_lines(self):
        page = Page("in 10 near\nasked told\npart tell of told\npart drop of told\npart far of tell")
        self.assertEqual(page.parts, ("told", "tell", "drop", "far"))
        for chance in (random.Random(seed) for seed in range(20)):
            sheet, lines = random_sheet(chance, page)
            back = read_journal(journal(sheet))
            self.assertEqual((back, back.done, journal(back)), (sheet, len(lines), journal(sheet)))
        text = page.text + "\ntold\ntell tell 5\nfar drop -\ndrop drop\ntell far 10\ndrop tell"
        self.assertEqual((self.check(text), read_journal(text).done), (None, 5))

    def test_a_page_that_no_table_fits(self):
        page = Page(EXAMPLE).told("open", 27)
        sheet = Sheet(page)
        self.assertEqual(read_journal(journal(sheet)), sheet)
        sheet.tell("open", 25)
        self.assertEqual(read_journal(journal(sheet)).page, page.told("open", 25))
        self.assertEqual(self.check(page.text + "\ntold\ndrop young\ndrop open"), 9)
        self.assertEqual(self.check(page.text + "\ntold\ntell open 27"), 9)
        self.assertIsNone(self.check(page.text + "\ntold\ndrop open\ndrop young"))


class BadJournalTest(JournalCase):
    def test_what_is_no_string(self):
        for value in any_values():
            if value.__class__ is not str:
                self.refuses_line(BadJournal, 0, read_journal, value)
        with self.assertRaises(BadJournal) as caught:
            read_journal(text=None)
        self.assertEqual(caught.exception.value, 0)

    def test_no_line_told(self):
        for text, number in (
            ("", 2), ("x", 2), ("\n", 3), (EXAMPLE, 8), (EXAMPLE + "\n", 9), (EXAMPLE + "\nTold", 9), (" told", 2),
            ("told ", 2), (EXAMPLE + "\ntold ", 9), (EXAMPLE + "\n told\ntell open 24", 10), ("in 1 up\nx", 3),
            (EXAMPLE + "\ntold tell open 24", 9), (EXAMPLE + "\ntoldtold", 9), ("told\\n", 2),
        ):
            self.assertEqual(self.check(text), number, text)

    def test_what_bad_page_tells(self):
        lines = EXAMPLE.split("\n")
        for text, number in (
            ("told", 1), ("told\ntell open 24", 1), ("told\n" + EXAMPLE, 1), (lines[0] + "\ntold", 2),
            ("\n".join(lines[:2]) + "\ntold", 3), ("\n".join(lines[:2]) + "\ntold\n" + lines[2], 3), ("\ntold", 1),
            ("in 1 near\nasked all\npart a of all\ntold\nx", 1), (EXAMPLE + "\n\ntold", 8),
            (EXAMPLE + "\npart\ntold", 8),
            ("in 100 near\nasked all\npart yes of yes\ntold", 3), (EXAMPLE.replace("62", "101") + "\ntold\nx", 6),
            (EXAMPLE + "\ntell open 24\ntold", 8), ("in 100 near\n\nasked all\npart a of all\ntold", 2),
        ):
            self.assertEqual(self.check(text), number, text)

    def test_lines_that_have_no_such_form(self):
        wrong = [
            "", " ", "tell", "tell open", "tell open 24 ", " tell open 24", "tell  open 24", "tell open  24",
            "Tell open 24", "tell Open 24", "tell open 024", "tell open 00", "tell open +24", "tell open -24",
            "tell open 24.0", "tell open --", "tell open None", "tell open Some", "tell open 2 4", "tell 24 open",
            "far", "far open", "far open 24 24", "drop", "drop open ", "drop open 24", "drop open -", "drop  open",
            "dropopen", "told", "undo", "redo", "step", "-", "part open", "part open of all is 24", "more yes no",
            "asked 52", "range yes no", "tell_far open 24", "tell open all", "tell - -", "tell openopeno 24",
            "drop openopeno", "tell open 1e1", "tell open 2_4", "keep", "drop 5",
        ]
        for line in wrong:
            for behind in ("", "\ntell open 24", "\nx"):
                self.assertEqual(self.check(EXAMPLE + "\ntold\n" + line + behind), 9, line)
                self.assertEqual(self.check(EXAMPLE + "\ntold\ntell open 24\ndrop open\n" + line + behind), 11, line)

    def test_lines_that_are_refused(self):
        wrong = [
            "tell nobody 5", "far nobody none", "drop nobody", "tell all 5", "far all -", "drop all", "tell open 101",
            "far open 101", "tell open 999999999", "tell open 27", "far open 27", "tell open some", "tell old 99",
            "far old none",
        ]
        for line in wrong:
            self.assertEqual(self.check(EXAMPLE + "\ntold\n" + line), 9, line)
            self.assertEqual(self.check(EXAMPLE + "\ntold\ntell open 24\n" + line + "\nx\n"), 10, line)
        self.assertEqual(self.check(EXAMPLE + "\ntold\ntell yes 39\ntell open 27\ntell no 33\ntell old 0"), 12)

    def test_lines_that_are_right(self):
        for line in (
            "tell open 24", "tell open 25", "far open 25", "tell open -", "far yes -", "drop yes", "drop young",
            "far young 25", "far yes 40", "tell old 38", "tell no 36", "tell old -",
        ):
            text = EXAMPLE + "\ntold\n" + line
            self.assertIsNone(self.check(text), line)
            sheet = read_journal(text)
            own = Page(EXAMPLE)
            word, part, *share = line.split(" ")
            if word == "drop":
                own = own.told(part, None).told_far(part, None)
            else:
                own = (own.told if word == "tell" else own.told_far)(part, None if share == ["-"] else int(share[0]))
            self.assertEqual((sheet.page, sheet.done, journal(sheet)), (own, 1, text))

    def test_blanks_and_zeros_ahead(self):
        page = "in 10 near\nasked told\npart tell of told\npart drop of told"
        right = "\ntold\ntell tell 5\nfar drop 5\ntell drop 5"
        self.assertIsNone(self.check(page + right))
        for old, new, number in (
            ("tell tell 5", "tell tell 05", 6), ("far drop 5", "far drop 005", 7), ("far drop", "far  drop", 7),
            ("tell drop", " tell drop", 8), ("tell drop 5", "tell drop 5 ", 8), ("\ntold\n", "\n told\n", 9),
            ("\ntold\n", "\ntold \n", 9), ("\ntell tell", "\n\ntell tell", 6), ("\ntold", "\n\ntold", 5),
        ):
            self.assertEqual(self.check(page + right.replace(old, new)), number, new)
        self.assertEqual(self.check(page + right + "\n"), 9)
        self.assertEqual(self.check(page + "\n told\ntold"), 5)

    def test_at_random(self):
        chance = random.Random(172)
        seen = {}
        for _ in range(400):
            sheet, _ = random_sheet(chance)
            lines = journal(sheet).split("\n")
            for _ in range(chance.choice((1, 1, 2))):
                at = chance.randrange(len(lines))
                kind = chance.randrange(6)
                if kind == 0:
                    del lines[at]
                elif kind == 1:
                    lines.insert(at, chance.choice(lines))
                elif kind == 2:
                    other = chance.randrange(len(lines))
                    lines[at], lines[other] = lines[other], lines[at]
                elif kind == 3:
                    lines[at] = chance.choice((lines[at] + " ", " " + lines[at], lines[at].replace(" ", "  ", 1), ""))
                elif kind == 4:
                    part, share = chance.choice(sheet.page.parts), chance.randint(0, 110)
                    lines.append(chance.choice((f"tell {part} {share}", f"far {part} {share}", f"drop {part}")))
                else:
                    lines.insert(chance.randint(0, len(lines)), "told")
                if not lines:
                    lines = [""]
            number = self.check("\n".join(lines))
            key = "right" if number is None else "missing" if number > len(lines) else "wrong"
            seen[key] = seen.get(key, 0) + 1
        self.assertEqual(len(seen), 3)
        self.assertGreater(min(seen.values()), 10, seen)

    def test_a_refusal_changes_nothing(self):
        sheet = Sheet(Page(EXAMPLE))
        text = journal(sheet)
        self.assertRaises(BadJournal, read_journal, text + "\nx")
        self.assertEqual((journal(sheet), read_journal(text)), (text, sheet))


del JournalCase

if __name__ == "__main__":
    unittest.main()
