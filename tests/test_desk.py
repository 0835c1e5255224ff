"""Point 15: a desk."""

import random
import unittest

from anyasked.desk import Desk
from anyasked.errors import (
    AskedError, BadJournal, BadLine, BadShare, BadTotal, Contrary, Empty, NoAbove, NoPart, NothingToRedo, NothingToUndo,
    NoTable,
)
from anyasked.holding import judged
from anyasked.journals import journal, read_journal
from anyasked.pages import Page
from anyasked.ranges import ratio
from anyasked.sheets import Sheet
from anyasked.totals import can, step
from tests.anyvalues import Refusals, any_values
from tests.countedpages import any_page, counted_page
from tests.pagetexts import EXAMPLE, random_share

TOLD = EXAMPLE + "\ntold"


def bound(side):
    """A bound as the desk is to show it."""
    if side[0] == ():
        return "-"
    return f"{side[0][0]}/{side[0][1]}" + ("" if side[1] else "!")


def outcome(call, *args):
    """What a call returns, or the class and the value of what it raises."""
    try:
        return call(*args)
    except AskedError as error:
        return error.__class__, error.value


class DeskCase(unittest.TestCase, Refusals):
    def setUp(self):
        self.desk = Desk(TOLD)


class DeskTest(DeskCase):
    def test_the_documents_example(self):
        sheet = Sheet(Page(EXAMPLE))
        sheet.tell("open", 24)
        sheet.undo()
        desk = Desk(journal(sheet))
        lines = ("part yes", "far old 16", "more old no", "range open all", "asked 52", "step")
        self.assertEqual([desk.say(line) for line in lines], ["40 -", "ok", "never", "6/25! 3887/15400", "never", "1"])

    def test_the_sheet(self):
        self.assertIs(self.desk.sheet.__class__, Sheet)
        self.assertEqual((self.desk.sheet, self.desk.sheet.done), (Sheet(Page(EXAMPLE)), 0))
        self.assertIs(self.desk.sheet, self.desk.sheet)
        desk = Desk(text=TOLD + "\ntell open 24\nfar old 16")
        self.assertEqual((desk.sheet, desk.sheet.done), (read_journal(TOLD + "\ntell open 24\nfar old 16"), 2))
        desk.sheet.undo()
        self.assertEqual(desk.say("part old"), "- -")
        desk.say("tell old 38")
        self.assertEqual(desk.sheet["old"], ("yes", 38, None))

    def test_bad_journal(self):
        for value in any_values():
            number = 0 if value.__class__ is not str else len(value.split("\n")) + 1
            self.refuses_line(BadJournal, number, Desk, value)
        for text, number in ((TOLD + "\ntell open 27", 9), (TOLD + "\n", 9), (EXAMPLE, 8), ("told", 1)):
            self.refuses_line(BadJournal, number, Desk, text)

    def test_deeds(self):
        desk, sheet = self.desk, Sheet(Page(EXAMPLE))
        for line, name, args in (
            ("tell open 24", "tell", ("open", 24)), ("far old 16", "tell_far", ("old", 16)),
            ("tell open -", "tell", ("open", None)), ("undo", "undo", ()), ("undo", "undo", ()), ("redo", "redo", ()),
            ("far old -", "tell_far", ("old", None)), ("drop yes", "drop", ("yes",)), ("undo", "undo", ()),
            ("tell yes none", "tell", ("yes", "none")), ("far open some", "tell_far", ("open", "some")),
            ("tell nobody 5", "tell", ("nobody", 5)), ("far all 5", "tell_far", ("all", 5)),
            ("drop all", "drop", ("all",)), ("tell no 101", "tell", ("no", 101)),
            ("tell no 0", "tell", ("no", 0)), ("redo", "redo", ()),
            ("tell all 101", "tell", ("all", 101)), ("redo", "redo", ()), *[("undo", "undo", ())] * 5,
            ("redo", "redo", ()), ("redo", "redo", ()),
        ):
            own = outcome(getattr(sheet, name), *args)
            self.assertEqual(outcome(desk.say, line), "ok" if own is None else own, line)
            self.assertEqual((desk.sheet, journal(desk.sheet)), (sheet, journal(sheet)))

    def test_what_the_sheet_raises(self):
        desk = self.desk
        self.refuses(NothingToUndo, None, desk.say, "undo")
        self.refuses(NothingToRedo, None, desk.say, "redo")
        self.refuses_value(NoPart, "nobody", "tell nobody 101")
        self.refuses_value(NoPart, "nobody", "far nobody -")
        self.refuses_value(NoPart, "nobody", "drop nobody")
        self.refuses_value(NoPart, "nobody", "part nobody")
        self.refuses_value(NoAbove, "all", "tell all 101")
        self.refuses_value(NoAbove, "all", "far all some")
        self.refuses_value(NoAbove, "all", "drop all")
        self.refuses_value(BadShare, 101, "tell open 101")
        self.refuses_value(BadShare, 999999999, "far open 999999999")
        for line in ("tell open 27", "far open 27", "tell old none"):
            self.assertRaises(Contrary, desk.say, line)
        self.assertEqual(journal(desk.sheet), TOLD)

    def refuses_value(self, error, value, line):
        with self.assertRaises(AskedError) as caught:
            self.desk.say(line)
        self.assertEqual((caught.exception.__class__, caught.exception.value), (error, value), line)
        self.assertIs(caught.exception.value.__class__, value.__class__)

    def test_part(self):
        desk = self.desk
        self.assertEqual([desk.say(f"part {part}") for part in ("all", "yes", "old")], ["- -", "40 -", "- -"])
        for line in ("far old 16", "far open 25", "tell young -", "tell open 25", "far no 35"):
            desk.say(line)
        answers = ["40 -", "35 35", "25 25", "- -", "- 16"]
        self.assertEqual([desk.say(f"part {part}") for part in ("yes", "no", "open", "young", "old")], answers)
        text = "in 10 near\nasked part\npart none of part is none all 0\npart some of part all some\npart x of part"
        desk = Desk(text + "\ntold")
        self.assertEqual([desk.say(f"part {part}") for part in ("none", "some", "x")], ["none 0", "- some", "- -"])

    def test_more(self):
        desk = self.desk
        for line, answer in (
            ("more yes no", "always"), ("more no yes", "never"), ("more young no", "never"), ("more old no", "never"),
            ("more all yes", "always"), ("more yes all", "never"), ("more young open", "open"),
            ("more open young", "open"),
        ):
            self.assertEqual(desk.say(line), answer, line)
        for line, value in (
            ("more nobody yes", "nobody"), ("more nobody else", "nobody"), ("more yes nobody", "nobody"),
            ("more yes yes", "yes"), ("more all all", "all"), ("more else else", "else"),
        ):
            self.refuses_value(NoPart, value, line)

    def test_more_by_halves(self):
        desk = Desk("in 2 even\nasked all\npart a of all is 1\npart b of all is 1\ntold")
        self.assertEqual((desk.say("more a b"), desk.say("more b a")), ("open", "open"))
        desk = Desk("in 2 down\nasked all\npart a of all is 1\npart b of all is 1\ntold")
        self.assertEqual((desk.say("more a b"), desk.say("more b a"), desk.say("step")), ("never", "never", "2"))

    def test_range(self):
        text = "in 10 near\nasked all\npart a of all\npart b of all is some\npart c of all\npart d of c is none"
        desk = Desk(text + "\npart e of c\ntold")
        for line, answer in (
            ("range b all", "0/1! 1/10!"), ("range a b", "0/1 -"), ("range all b", "10/1! -"), ("range d c", "0/1 0/1"),
            ("range a a", "1/1 1/1"), ("range all all", "1/1 1/1"), ("range a all", "0/1 1/1!"),
            ("range e c", "1/1 1/1"),
        ):
            self.assertEqual(desk.say(line), answer, line)
        with self.assertRaises(Empty) as caught:
            desk.say("range a d")
        self.assertEqual(caught.exception.value, "d")
        for line in ("range nobody all", "range nobody else", "range all nobody"):
            self.refuses_value(NoPart, "nobody", line)

    def test_asked(self):
        desk = self.desk
        self.assertEqual([desk.say(f"asked {total}") for total in (1, 52, 53, 150)], ["never", "can", "never", "can"])
        for total in (0, 151, 999, 999999999):
            self.refuses_value(BadTotal, total, f"asked {total}")

    def test_a_page_that_no_table_fits(self):
        desk = Desk(Page(EXAMPLE).told("open", 27).text + "\ntold")
        for line in ("more yes no", "range yes no", "step"):
            self.refuses(NoTable, None, desk.say, line)
        self.assertEqual((desk.say("asked 52"), desk.say("part open"), desk.say("drop open")), ("never", "27 -", "ok"))
        self.assertEqual(desk.say("more yes no"), "always")

    def test_at_random(self):
        chance = random.Random(181)
        many = 0
        for _ in range(60):
            page = counted_page(chance, told=0.4)[0] if chance.random() < 0.8 else any_page(chance)
            desk = Desk(text=page.text + "\ntold")
            for _ in range(6):
                one, other = chance.choice(page.parts), chance.choice(page.parts)
                now, total = desk.sheet.page, chance.randint(0, 160)
                own = outcome(ratio, now, one, other)
                if own.__class__ is tuple and own[0].__class__ is tuple:
                    own = " ".join(bound(side) for side in own)
                    many += 1
                self.assertEqual(outcome(desk.say, f"range {one} {other}"), own)
                told = outcome(can, now, total)
                self.assertEqual(outcome(desk.say, f"asked {total}"), told if told[0] is BadTotal else told[0])
                found = outcome(step, now)
                self.assertEqual(outcome(desk.say, "step"), str(found) if found.__class__ is int else found)
                if one != other:
                    statement = (tuple(sorted(((one, 1), (other, -1)))), "more")
                    told = outcome(judged, now, statement)
                    self.assertEqual(outcome(desk.say, f"more {one} {other}"), told if told[0] is NoTable else told[0])
                shown = ["-" if share is None else str(share) for share in now[one][1:]]
                self.assertEqual(desk.say(line=f"part {one}"), " ".join(shown))
                share = random_share(chance, page.units[0])
                word = "-" if share is None else share
                deeds = f"tell {one} {word}", f"far {one} {word}", f"drop {one}", "undo", "redo"
                outcome(desk.say, chance.choice(deeds))
        self.assertGreater(many, 100)

    def test_parts_called_by_words_of_lines(self):
        text = "in 10 near\nasked asked\npart undo of asked is 3\npart step of asked\npart more of step"
        desk = Desk(text + "\npart range of step\ntold")
        for line, answer in (
            ("part undo", "3 -"), ("more more range", "open"), ("range range asked", "0/1 3/4"), ("tell more 5", "ok"),
            ("more step undo", "always"), ("part more", "5 -"), ("undo", "ok"), ("step", "1"), ("drop undo", "ok"),
            ("part undo", "- -"),
        ):
            self.assertEqual(desk.say(line), answer, line)


class BadLineTest(DeskCase):
    def test_values_of_any_kind(self):
        for value in any_values() + ["\n", "told"]:
            self.refuses(BadLine, value, self.desk.say, value)

    def test_other_lines(self):
        wrong = [
            "tell", "far", "drop", "part", "more", "range", "asked", "tell open", "far open", "more yes",
            "range yes", "tell open 24 5", "drop open 24", "part open 24", "more yes no old", "range yes no old",
            "asked 5 5", "undo 1", "redo 1", "step 1", "undo ", " undo", "step ", " step", "Undo", "STEP", "steps",
            "keep", "judged", "journal", "part  open", "part open ", " part open", "more  yes no", "more yes  no",
            "more yes no ", "range yes no ", "asked  52", "asked 52 ", " asked 52", "asked 052", "asked 00",
            "asked +5", "asked -5", "asked 5.0", "asked -", "asked some", "asked five", "asked ", "part Open",
            "part 5", "part -", "part openopeno", "more Yes no", "more yes No", "more yes 5", "more yes openopeno",
            "range Yes no", "range yes -", "range 5 6", "tell Open 24", "tell open 024", "tell open +1",
            "tell open Some", "tell open x", "tell open 24 ", "tell  open 24", "drop Open", "drop open ",
            "drop  open", "tell open 24\n", "step\n", "\nstep", "undo\nundo", "part yes\npart no", "asked\n52",
            "sheet", "in 100 near", "asked all", "part open of all", "part open of all is 24", "told", "-", "ok",
            "tell - 5",
        ]
        for line in wrong:
            self.refuses(BadLine, line, self.desk.say, line)
            with self.assertRaises(BadLine):
                self.desk.say(line=line)
        self.assertEqual(journal(self.desk.sheet), TOLD)

    def test_bad_line_ahead_of_all_others(self):
        desk = Desk(Page(EXAMPLE).told("open", 27).text + "\ntold")
        for line in ("more nobody", "range nobody a b", "asked 00", "tell nobody x", "drop nobody all", "undo x"):
            self.refuses(BadLine, line, desk.say, line)

    def test_signs_and_orders_and_indexes(self):
        desk = self.desk
        for call in (
            lambda: desk + desk, lambda: desk * 2, lambda: 2 * desk, lambda: desk - 1, lambda: desk < desk,
            lambda: desk >= 1, lambda: desk["yes"], lambda: desk[0], lambda: len(desk), lambda: "yes" in desk,
            lambda: -desk, lambda: desk % 2, lambda: desk | desk, lambda: [1] + desk,
        ):
            self.assertRaises(TypeError, call)
        with self.assertRaises(TypeError):
            desk["yes"] = 40
        with self.assertRaises(TypeError):
            desk += 1


del DeskCase

if __name__ == "__main__":
    unittest.main()
