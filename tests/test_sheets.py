"""Point 14: sheets."""

import random
import unittest

from anyasked.errors import (
    AskedError, BadShare, BadStatement, Contrary, NoAbove, NoPart, NothingToRedo, NothingToUndo, NoTable, NoTrial,
)
from anyasked.holding import judged
from anyasked.pages import Page
from anyasked.possible import possible
from anyasked.sheets import Sheet
from tests.anyvalues import Refusals, any_values
from tests.countedpages import any_page, counted_page
from tests.pagetexts import EXAMPLE, random_share
from tests.reckoning import is_kind, is_paper, rows_of
from tests.statements import differing_statement, random_statement

SURE = ((("old", 5), ("open", -3)), "more")


def state(sheet):
    """What a sheet tells of itself, what can be undone and what can be done again among it, by a copy."""
    found = [sheet.first.text, sheet.page.text, sheet.done, len(sheet)]
    for take in ("undo", "redo"):
        other = sheet.copy()
        while True:
            try:
                getattr(other, take)()
            except (NothingToUndo, NothingToRedo):
                break
            found.append((take, other.page.text, other.done))
    return found


def random_deed(chance, sheet):
    """(name of a method, arguments) of a deed, a refused one perhaps."""
    part = chance.choice(sheet.page.parts + sheet.page.parts[1:] * 3)
    kind = chance.choice(("tell", "tell_far", "tell", "tell_far", "drop", "__setitem__"))
    if kind == "drop":
        return kind, (part,)
    share = chance.choice((None, random_share(chance, sheet.page.units[0]), *sheet[part][1:]))
    return kind, (part, share)


class SheetCase(unittest.TestCase, Refusals):
    def refuses_contrary(self, sheet, changed, call, *args):
        """The call raises Contrary with a paper for the rows of the changed page, and changes nothing."""
        ahead = state(sheet)
        with self.assertRaises(Contrary) as caught:
            call(*args)
        self.assertIs(caught.exception.__class__, Contrary)
        self.assertTrue(is_paper(rows_of(changed), caught.exception.value))
        self.assertEqual(state(sheet), ahead)


class SheetTest(SheetCase):
    def test_the_documents_example(self):
        sheet = Sheet(Page(EXAMPLE))
        self.assertIsNone(sheet.tell("open", 24))
        found = [sheet.news(SURE), sheet.done, len(sheet), sheet.undo(), sheet["open"]]
        self.assertEqual(found, [("open", "always"), 1, 4, None, ("all", None, None)])

    def test_at_first(self):
        page = Page(EXAMPLE)
        for sheet in (Sheet(page), Sheet(page=page)):
            self.assertEqual((sheet.page, sheet.first, sheet.done, len(sheet)), (page, page, 0, 3))
            self.assertIs(sheet.page.__class__, Page)
            self.assertIs(sheet.first.__class__, Page)
            self.assertEqual([sheet[part] for part in page.parts], [page[part] for part in page.parts])

    def test_deeds(self):
        page = Page(EXAMPLE)
        sheet = Sheet(page)
        deeds = [
            (lambda: sheet.tell("open", 24), lambda page: page.told("open", 24), 4),
            (lambda: sheet.tell_far("old", 16), lambda page: page.told_far("old", 16), 5),
            (lambda: sheet.__setitem__("old", 39), lambda page: page.told("old", 39), 6),
            (lambda: sheet.tell("yes", None), lambda page: page.told("yes", None), 5),
            (lambda: sheet.drop("old"), lambda page: page.told("old", None).told_far("old", None), 3),
            (lambda: sheet.drop("old"), lambda page: page, 3),
            (lambda: sheet.tell(share=24, part="open"), lambda page: page, 3),
            (lambda: sheet.tell_far(share=25, part="young"), lambda page: page.told_far("young", 25), 4),
            (lambda: sheet.tell_far("young", None), lambda page: page.told_far("young", None), 3),
            (lambda: sheet.drop(part="no"), lambda page: page.told("no", None), 2),
            (lambda: sheet.tell("old", None), lambda page: page, 2),
        ]
        for number, (do, change, many) in enumerate(deeds, start=1):
            self.assertIsNone(do())
            page = change(page)
            self.assertEqual((sheet.page, sheet.first, sheet.done, len(sheet)), (page, Page(EXAMPLE), number, many))
            for part in page.parts:
                self.assertEqual(sheet[part], page[part])
        self.assertEqual(page, sheet.page)

    def test_an_item_is_told(self):
        sheet, other = Sheet(Page(EXAMPLE)), Sheet(Page(EXAMPLE))
        sheet["open"] = 24
        other.tell("open", 24)
        self.assertEqual((sheet, state(sheet)), (other, state(other)))
        sheet["open"] = None
        self.assertEqual((sheet.done, sheet["open"]), (2, ("all", None, None)))
        with self.assertRaises(NoAbove):
            sheet["all"] = 5
        with self.assertRaises(BadShare):
            sheet["open"] = 101
        with self.assertRaises(NoPart):
            sheet["nobody"] = 101
        with self.assertRaises(Contrary):
            sheet["open"] = 27
        self.assertEqual(sheet.done, 2)

    def test_in_and_items(self):
        sheet = Sheet(Page(EXAMPLE))
        for value in any_values() + ["nobody", "open", "told"]:
            is_part = value.__class__ is str and value in ("all", "yes", "no", "open", "young", "old")
            self.assertIs(value in sheet, is_part)
            if not is_part:
                self.refuses(NoPart, value, lambda one: sheet[one], value)

    def test_refusals(self):
        for page in (Page(EXAMPLE), Page(EXAMPLE).told("open", 27)):
            sheet = Sheet(page)
            ahead = state(sheet)
            for value in any_values() + ["nobody"]:
                if value.__class__ is str and value in page.parts:
                    continue
                for share in (24, None, 101, value):
                    self.refuses(NoPart, value, sheet.tell, value, share)
                    self.refuses(NoPart, value, sheet.tell_far, value, share)
                    self.refuses(NoPart, value, sheet.__setitem__, value, share)
                self.refuses(NoPart, value, sheet.drop, value)
            for value in any_values() + [101, -1, "None"]:
                self.refuses(NoAbove, "all", sheet.tell, "all", value)
                self.refuses(NoAbove, "all", sheet.tell_far, "all", value)
                self.refuses(NoAbove, "all", sheet.__setitem__, "all", value)
                if value is None or value.__class__ is int and 0 <= value <= 100 or value in ("none", "some"):
                    continue
                self.refuses(BadShare, value, sheet.tell, "open", value)
                self.refuses(BadShare, value, sheet.tell_far, "open", value)
                self.refuses(BadShare, value, sheet.__setitem__, "open", value)
            self.refuses(NoAbove, "all", sheet.drop, "all")
            self.assertEqual(state(sheet), ahead)
        self.refuses(NoPart, 5, sheet.tell, share=6, part=5)
        self.refuses(BadShare, 101, sheet.tell_far, share=101, part="open")

    def test_contrary(self):
        page = Page(EXAMPLE)
        sheet = Sheet(page)
        sheet.tell("open", 24)
        sheet.undo()
        self.refuses_contrary(sheet, page.told("open", 27), sheet.tell, "open", 27)
        self.refuses_contrary(sheet, page.told_far("open", 27), sheet.tell_far, "open", 27)
        self.refuses_contrary(sheet, page.told("open", "some"), sheet.__setitem__, "open", "some")
        sheet.redo()
        self.assertEqual(sheet["open"], ("all", 24, None))

    def test_a_page_that_no_table_fits(self):
        page = Page(EXAMPLE).told("open", 27)
        sheet = Sheet(page)
        self.assertEqual((sheet.page, sheet.done, len(sheet)), (page, 0, 4))
        self.refuses(NoTable, None, sheet.judged, SURE)
        self.assertEqual(sheet.news(SURE), ("none",))
        self.refuses_contrary(sheet, page, sheet.tell, "open", 27)
        self.refuses_contrary(sheet, page.told("old", 38), sheet.tell, "old", 38)
        self.refuses_contrary(sheet, page.told("old", None), sheet.tell, "old", None)
        self.refuses_contrary(sheet, page.told("young", None), sheet.drop, "young")
        sheet.drop("open")
        self.assertEqual((sheet.page, sheet.news(SURE)), (Page(EXAMPLE), ("none", "open")))
        sheet.undo()
        self.assertEqual((sheet.page, sheet.done), (page, 0))
        sheet.redo()
        self.refuses_contrary(sheet, page, sheet.tell, "open", 27)
        self.assertEqual(sheet.judged(SURE), "open")

    def test_at_random(self):
        chance = random.Random(161)
        seen = {}
        for _ in range(60):
            page = counted_page(chance, told=0.3)[0] if chance.random() < 0.8 else any_page(chance)
            sheet = Sheet(page)
            pages, undone = [page], []
            for _ in range(12):
                told = self.one_step(chance, sheet, pages, undone)
                seen[told] = seen.get(told, 0) + 1
                self.assertEqual((sheet.page, sheet.first, sheet.done), (pages[-1], page, len(pages) - 1))
                self.assertEqual(len(sheet), sum(
                    share is not None for part in page.parts for share in pages[-1][part][1:]
                ))
        for told in ("done", "contrary", "no above", "undo", "redo", "nothing to undo", "nothing to redo"):
            self.assertGreater(seen[told], 5, seen)

    def one_step(self, chance, sheet, pages, undone):
        """Something that is done to a sheet, and to lists of the pages behind its deeds and of those taken back."""
        kind = chance.choice(("deed", "deed", "deed", "undo", "redo"))
        if kind == "undo" and len(pages) == 1:
            self.refuses(NothingToUndo, None, sheet.undo)
            return "nothing to undo"
        if kind == "redo" and not undone:
            self.refuses(NothingToRedo, None, sheet.redo)
            return "nothing to redo"
        if kind == "undo":
            self.assertIsNone(sheet.undo())
            undone.append(pages.pop())
            return kind
        if kind == "redo":
            self.assertIsNone(sheet.redo())
            pages.append(undone.pop())
            return kind
        name, args = random_deed(chance, sheet)
        if args[0] == sheet.page.parts[0]:
            self.refuses(NoAbove, args[0], getattr(sheet, name), *args)
            return "no above"
        change = {"tell": Page.told, "__setitem__": Page.told, "tell_far": Page.told_far}.get(name)
        changed = change(pages[-1], *args) if change else pages[-1].told(args[0], None).told_far(args[0], None)
        if possible(changed)[0] == "never":
            self.refuses_contrary(sheet, changed, getattr(sheet, name), *args)
            return "contrary"
        self.assertIsNone(getattr(sheet, name)(*args))
        pages.append(changed)
        undone.clear()
        return "done"


class UndoTest(SheetCase):
    def test_nothing(self):
        sheet = Sheet(Page(EXAMPLE))
        self.refuses(NothingToUndo, None, sheet.undo)
        self.refuses(NothingToRedo, None, sheet.redo)
        sheet.tell("open", 24)
        self.refuses(NothingToRedo, None, sheet.redo)
        self.assertIsNone(sheet.undo())
        self.refuses(NothingToUndo, None, sheet.undo)
        self.assertIsNone(sheet.redo())
        self.refuses(NothingToRedo, None, sheet.redo)
        self.assertEqual(sheet["open"], ("all", 24, None))

    def test_only_as_long_as_no_other_deed_came(self):
        sheet = Sheet(Page(EXAMPLE))
        sheet.tell("open", 24)
        sheet.tell("old", 38)
        sheet.undo()
        sheet.undo()
        for call, args in (
            (sheet.tell, ("open", 27)), (sheet.tell, ("all", 1)), (sheet.tell, ("open", 101)), (sheet.drop, ("x",)),
        ):
            self.assertRaises(AskedError, call, *args)
        sheet.redo()
        self.assertEqual((sheet["open"][1], sheet["old"][1]), (24, None))
        self.assertRaises(Contrary, sheet.tell, "no", 99)
        sheet.redo()
        self.assertEqual((sheet["open"][1], sheet["old"][1]), (24, 38))
        sheet.undo()
        # A deed that changes nothing is one, too.
        sheet.drop("old")
        self.refuses(NothingToRedo, None, sheet.redo)
        self.assertEqual(sheet.done, 2)

    def test_asking_is_no_deed(self):
        sheet = Sheet(Page(EXAMPLE))
        sheet.tell("open", 24)
        sheet.undo()
        asked = sheet.judged(SURE), sheet.news(SURE), len(sheet), sheet["yes"], "yes" in sheet, sheet == sheet.copy()
        self.assertEqual(asked[:2], ("open", ("open",)))
        sheet.redo()
        self.assertEqual(sheet.done, 1)


class AskingTest(SheetCase):
    def test_judged_and_news(self):
        chance = random.Random(162)
        seen = {}
        for _ in range(60):
            page = counted_page(chance, told=0.3)[0] if chance.random() < 0.8 else any_page(chance)
            sheet = Sheet(page)
            pages = [page]
            for _ in range(5):
                name, args = random_deed(chance, sheet)
                try:
                    getattr(sheet, name)(*args)
                except AskedError:
                    continue
                pages.append(sheet.page)
            statement = chance.choice((random_statement, differing_statement))(chance, page)
            words = []
            for one in pages:
                try:
                    words.append(judged(one, statement)[0])
                except NoTable:
                    words.append("none")
            self.assertEqual(sheet.news(statement), tuple(words))
            self.assertEqual(sheet.news(statement=statement), tuple(words))
            if words[-1] == "none":
                self.refuses(NoTable, None, sheet.judged, statement)
            else:
                self.assertEqual(sheet.judged(statement), words[-1])
                self.assertEqual(sheet.judged(statement=statement), words[-1])
            for word in words:
                seen[word] = seen.get(word, 0) + 1
            if len(pages) > 1:
                sheet.undo()
                self.assertEqual(sheet.news(statement), tuple(words[:-1]))
        self.assertEqual(set(seen), {"always", "never", "open", "none"})

    def test_bad_statement(self):
        for page in (Page(EXAMPLE), Page(EXAMPLE).told("open", 27)):
            sheet = Sheet(page)
            for value in any_values() + [(SURE[0], "most"), ((("nobody", 1),), "more"), [SURE[0], "more"]]:
                self.refuses(BadStatement, value, sheet.judged, value)
                self.refuses(BadStatement, value, sheet.news, value)


class TrialTest(SheetCase):
    def setUp(self):
        self.sheet = Sheet(Page(EXAMPLE))
        self.sheet.tell("open", 24)
        self.sheet.tell("old", 38)
        self.sheet.undo()
        self.ahead = state(self.sheet)

    def test_behind_the_block_all_is_as_ahead_of_it(self):
        sheet = self.sheet
        with sheet.trial() as held:
            self.assertIs(held, sheet)
            self.assertEqual(state(sheet), self.ahead)
            sheet.undo()
            sheet.tell("yes", 41)
            sheet.tell_far("old", 16)
            sheet.undo()
            self.assertEqual((sheet.done, sheet["yes"], sheet["open"]), (1, ("all", 41, None), ("all", None, None)))
        self.assertEqual(state(sheet), self.ahead)
        sheet.redo()
        self.assertEqual(sheet["old"], ("yes", 38, None))

    def test_kept(self):
        sheet = self.sheet
        with sheet.trial():
            sheet.undo()
            self.assertIsNone(sheet.keep())
            sheet.tell("yes", 41)
            sheet.keep()
        self.assertEqual((sheet.done, sheet["yes"], sheet["open"]), (1, ("all", 41, None), ("all", None, None)))
        self.refuses(NoTrial, None, sheet.keep)
        sheet.undo()
        sheet.redo()
        self.refuses(NothingToRedo, None, sheet.redo)

    def test_errors_pass_on(self):
        sheet = self.sheet
        for keep in (True, False):
            for error in (KeyError("x"), Contrary(5), GeneratorExit(), KeyboardInterrupt()):
                with self.assertRaises(error.__class__) as caught:
                    with sheet.trial():
                        sheet.tell("yes", 41)
                        if keep:
                            sheet.keep()
                        raise error
                self.assertIs(caught.exception, error)
                self.assertEqual(state(sheet), self.ahead)
                self.refuses(NoTrial, None, sheet.keep)
        with self.assertRaises(Contrary):
            with sheet.trial():
                sheet.keep()
                sheet.tell("open", 27)
        self.assertEqual(state(sheet), self.ahead)

    def test_an_error_that_does_not_leave_the_block(self):
        sheet = self.sheet
        with sheet.trial():
            sheet.tell("yes", 41)
            sheet.keep()
            self.assertRaises(Contrary, sheet.tell, "open", 99)
        self.assertEqual(sheet["yes"], ("all", 41, None))

    def test_leaving_by_return_and_break(self):
        sheet = self.sheet

        def leave(keep):
            for _ in range(2):
                with sheet.trial():
                    sheet.tell("yes", 41)
                    if keep:
                        sheet.keep()
                        return
                    break

        leave(False)
        self.assertEqual(state(sheet), self.ahead)
        leave(True)
        self.assertEqual(sheet["yes"], ("all", 41, None))

    def test_no_trial(self):
        sheet = Sheet(Page(EXAMPLE))
        self.refuses(NoTrial, None, sheet.keep)
        block = sheet.trial()
        self.refuses(NoTrial, None, sheet.keep)
        with block:
            self.refuses(NoTrial, None, sheet.copy().keep)
            self.refuses(NoTrial, None, Sheet(Page(EXAMPLE)).keep)
        self.refuses(NoTrial, None, sheet.keep)

    def test_ahead_of_the_block_is_where_it_is_entered(self):
        sheet = self.sheet
        block = sheet.trial()
        sheet.redo()
        ahead = state(sheet)
        self.assertNotEqual(ahead, self.ahead)
        with block:
            sheet.undo()
            sheet.undo()
        self.assertEqual(state(sheet), ahead)

    def test_blocks_within_blocks(self):
        for outer in (True, False):
            for inner in (True, False):
                for early in (True, False):
                    sheet = Sheet(Page(EXAMPLE))
                    with sheet.trial():
                        if outer and early:
                            sheet.keep()
                        sheet.tell("yes", 41)
                        with sheet.trial() as held:
                            self.assertIs(held, sheet)
                            sheet.tell("no", 36)
                            if inner:
                                sheet.keep()
                        self.assertEqual((sheet.done, sheet["no"][1]), (2, 36) if inner else (1, 35))
                        if outer and not early:
                            sheet.keep()
                    expected = (41, 36 if inner else 35) if outer else (40, 35)
                    self.assertEqual((sheet["yes"][1], sheet["no"][1]), expected)
                    self.refuses(NoTrial, None, sheet.keep)

    def test_an_error_that_leaves_the_inner_block_alone(self):
        sheet = Sheet(Page(EXAMPLE))
        with sheet.trial():
            sheet.tell("yes", 41)
            with self.assertRaises(KeyError):
                with sheet.trial():
                    sheet.keep()
                    sheet.tell("no", 36)
                    raise KeyError("x")
            self.assertEqual((sheet.done, sheet["no"][1]), (1, 35))
            sheet.keep()
        self.assertEqual((sheet["yes"][1], sheet["no"][1]), (41, 35))

    def test_one_behind_the_other(self):
        sheet = Sheet(Page(EXAMPLE))
        with sheet.trial():
            with sheet.trial():
                sheet.keep()
            with sheet.trial():
                sheet.tell("yes", 41)
            self.assertEqual(sheet.done, 0)
            with sheet.trial():
                sheet.tell("yes", 41)
                sheet.keep()
            self.assertEqual(sheet.done, 1)
        self.assertEqual(sheet.done, 0)

    def test_tried(self):
        sheet = self.sheet
        seen = []

        def look(one):
            seen.append(one)
            one.undo()
            one.tell("yes", 41)
            return one.page.text

        text = EXAMPLE.replace("40", "41")
        self.assertEqual(sheet.tried(look), text)
        self.assertIs(seen[0], sheet)
        for keep in (False, None, 1, "True", [True], (True,), 0, object()):
            self.assertEqual(sheet.tried(look, keep=keep), text)
            self.assertEqual(state(sheet), self.ahead)
        self.assertEqual(sheet.tried(keep=True, look=look), text)
        self.assertEqual((sheet.page.text, sheet.done), (text, 1))
        self.refuses(NoTrial, None, sheet.keep)
        self.assertRaises(TypeError, sheet.tried, look, True)
        value = object()
        self.assertIs(sheet.tried(lambda one: value), value)
        self.assertIsNone(sheet.tried(lambda one: None, keep=True))

    def test_tried_with_a_look_that_keeps(self):
        sheet = self.sheet

        def look(one):
            one.tell("yes", 41)
            one.keep()

        self.assertIsNone(sheet.tried(look, keep=False))
        self.assertEqual((sheet["yes"][1], sheet.done), (41, 2))
        with sheet.trial():
            sheet.tried(look)
            self.assertEqual(sheet.done, 3)
        self.assertEqual(sheet.done, 2)

    def test_tried_with_errors(self):
        sheet = self.sheet
        error = KeyError("x")

        def look(one):
            one.tell("yes", 41)
            one.keep()
            raise error

        for keep in (True, False):
            with self.assertRaises(KeyError) as caught:
                sheet.tried(look, keep=keep)
            self.assertIs(caught.exception, error)
            self.assertEqual(state(sheet), self.ahead)
        with self.assertRaises(Contrary):
            sheet.tried(lambda one: one.tell("open", 27), keep=True)
        self.assertEqual(state(sheet), self.ahead)
        self.refuses(NoTrial, None, sheet.keep)

    def test_tried_within_tried(self):
        sheet = self.sheet

        def inner(one):
            one.tell("yes", 41)

        def outer(one):
            one.tried(inner, keep=True)
            found = one["yes"][1]
            one.tried(lambda same: same.tell("yes", 40))
            return found, one["yes"][1]

        self.assertEqual(sheet.tried(outer), (41, 41))
        self.assertEqual(state(sheet), self.ahead)
        self.assertEqual(sheet.tried(outer, keep=True), (41, 41))
        self.assertEqual(sheet["yes"][1], 41)

    def test_what_is_asked_within_a_block(self):
        sheet = Sheet(Page(EXAMPLE))
        with sheet.trial():
            sheet.tell("open", 24)
            self.assertEqual((sheet.judged(SURE), sheet.news(SURE)), ("always", ("open", "always")))
        self.assertEqual((sheet.judged(SURE), sheet.news(SURE)), ("open", ("open",)))

    def test_at_random(self):
        chance = random.Random(163)

        def act(sheet, deep):
            for _ in range(chance.randint(1, 4)):
                kind = chance.randrange(6)
                if kind < 3:
                    name, args = random_deed(chance, sheet)
                elif kind < 5:
                    name, args = ("undo", "redo")[kind - 3], ()
                else:
                    if deep < 3:
                        block(sheet, deep + 1)
                    continue
                try:
                    getattr(sheet, name)(*args)
                except AskedError:
                    pass

        def block(sheet, deep):
            ahead, keep, fail = state(sheet), chance.random() < 0.5, chance.random() < 0.2
            try:
                with sheet.trial():
                    act(sheet, deep)
                    if keep:
                        sheet.keep()
                        act(sheet, deep)
                    inside = state(sheet)
                    if fail:
                        raise KeyError
            except KeyError:
                self.assertTrue(fail)
            self.assertEqual(state(sheet), inside if keep and not fail else ahead)

        for _ in range(40):
            sheet = Sheet(counted_page(chance, told=0.3)[0])
            for _ in range(3):
                name, args = random_deed(chance, sheet)
                try:
                    getattr(sheet, name)(*args)
                except AskedError:
                    pass
            block(sheet, 0)
            self.refuses(NoTrial, None, sheet.keep)


class CopyTest(SheetCase):
    def test_alike_in_all_things_and_independent(self):
        sheet = Sheet(Page(EXAMPLE))
        sheet.tell("open", 24)
        sheet.tell("old", 38)
        sheet.undo()
        ahead = state(sheet)
        other = sheet.copy()
        self.assertIs(other.__class__, Sheet)
        self.assertIsNot(other, sheet)
        self.assertEqual((other, state(other)), (sheet, ahead))
        other.redo()
        other.tell("yes", 41)
        self.assertEqual(state(sheet), ahead)
        behind = state(other)
        sheet.undo()
        sheet.redo()
        sheet.redo()
        self.assertEqual((sheet["old"][1], state(other)), (38, behind))

    def test_within_a_block(self):
        sheet = Sheet(Page(EXAMPLE))
        with sheet.trial():
            sheet.tell("open", 24)
            other = sheet.copy()
            self.refuses(NoTrial, None, other.keep)
            with other.trial():
                other.tell("old", 38)
                other.keep()
            self.refuses(NoTrial, None, other.keep)
            self.assertEqual((sheet.done, other.done), (1, 2))
        self.assertEqual((sheet.done, other.done, other["old"][1], other["open"][1]), (0, 2, 38, 24))

    def test_equal_ones(self):
        page = Page(EXAMPLE)
        one, other = Sheet(page), Sheet(Page(EXAMPLE))
        self.assertTrue(one == other and not one != other)
        one.tell("open", 24)
        self.assertFalse(one == other or not one != other)
        other.tell_far("open", 24)
        self.assertNotEqual(one, other)
        other.drop("open")
        other.tell("open", 24)
        # By other deeds the same page.
        self.assertEqual((one, one.done, other.done), (other, 1, 3))
        third = Sheet(page.told("open", 24))
        self.assertEqual(third.page, one.page)
        self.assertNotEqual(third, one)
        third.drop("open")
        one.undo()
        self.assertEqual(third.page, one.page)
        self.assertNotEqual(third, one)
        for value in any_values() + [page, EXAMPLE, [one], (one,)]:
            if not is_kind(value, Sheet):
                self.assertFalse(one == value)
                self.assertTrue(one != value)
                self.assertFalse(value == one)
        self.assertEqual([one], [one.copy()])


class SignsTest(SheetCase):
    def test_signs_and_orders_and_indexes(self):
        sheet = Sheet(Page(EXAMPLE))
        signs = [
            lambda one, two: one + two, lambda one, two: one - two, lambda one, two: one * two,
            lambda one, two: one / two, lambda one, two: one // two, lambda one, two: one ** two,
            lambda one, two: one & two, lambda one, two: one | two, lambda one, two: one ^ two,
            lambda one, two: one << two, lambda one, two: one >> two, lambda one, two: one @ two, divmod,
            lambda one, two: one < two, lambda one, two: one <= two, lambda one, two: one > two,
            lambda one, two: one >= two, lambda one, two: one % two,
        ]
        for sign in signs:
            for value in (1, None, (), [], {}, sheet, sheet.page, sheet.copy(), True):
                self.assertRaises(TypeError, sign, sheet, value)
                self.assertRaises(TypeError, sign, value, sheet)
            self.assertRaises(TypeError, sign, sheet, "x")
        for change in (lambda: -sheet, lambda: +sheet, lambda: ~sheet, lambda: abs(sheet), lambda: sum([sheet])):
            self.assertRaises(TypeError, change)
        self.assertEqual(sheet.done, 0)


del SheetCase

if __name__ == "__main__":
    unittest.main()
