"""Points 2 and 3 over the whole program: names, arguments, what is handed in, signs, words of lines as names."""

import importlib
import inspect
import os
import random
import unittest

from anyasked.choosing import cheapest, shows_cheapest
from anyasked.comparing import alike, shows_alike, shows_within, within
from anyasked.desk import Desk
from anyasked.errors import AskedError, Contrary, NoAbove, NoPart, NoTable
from anyasked.holding import judged, shows_judged
from anyasked.journals import journal, read_journal
from anyasked.pages import Page
from anyasked.possible import both, possible, shows_both, shows_possible
from anyasked.ranges import ratio, shows_ratio
from anyasked.rows import is_paper, rows
from anyasked.shares import shown, stretch
from anyasked.sheets import Sheet
from anyasked.tables import Table
from anyasked.totals import can, counts_at, shows_can, step, totals
from tests.anyvalues import Refusals, any_values
from tests.countedpages import any_page, bare_page, counted_page, page_of, random_counts, shown_page
from tests.pagetexts import EXAMPLE
from tests.reckoning import fits, holds, is_paper as is_right_paper, rows_of, small_tables
from tests.statements import differing_statement, random_statement
from tests.test_journals import random_sheet
from tests.test_sheets import random_deed, state

FUNCTIONS = {
    "shares": {"shown": "units many whole", "stretch": "units share"},
    "rows": {"rows": "page", "is_paper": "page more value"},
    "possible": {
        "possible": "page", "shows_possible": "page value", "both": "one other", "shows_both": "one other value",
    },
    "holding": {"judged": "page statement", "shows_judged": "page statement value"},
    "ranges": {"ratio": "page part other", "shows_ratio": "page part other value"},
    "comparing": {
        "within": "one other", "shows_within": "one other value", "alike": "one other",
        "shows_alike": "one other value",
    },
    "totals": {
        "step": "page", "can": "page total", "shows_can": "page total value", "counts_at": "page total part",
        "totals": "page low high",
    },
    "choosing": {"cheapest": "page offers wishes", "shows_cheapest": "page offers wishes value"},
    "journals": {"journal": "sheet", "read_journal": "text"},
}
CLASSES = {
    "pages": ("Page", "text", "text units parts ends", {
        "beneath": "part", "ends_of": "part", "told": "part share", "told_far": "part share",
    }),
    "tables": ("Table", "page counts", "page counts total fits", {"share": "part other", "shows": "part"}),
    "sheets": ("Sheet", "page", "page first done", {
        "tell": "part share", "tell_far": "part share", "drop": "part", "judged": "statement", "news": "statement",
        "undo": "", "redo": "", "trial": "", "keep": "", "tried": "look keep", "copy": "",
    }),
    "desk": ("Desk", "text", "sheet", {"say": "line"}),
}
WORDS = (
    "in", "asked", "part", "of", "is", "all", "told", "tell", "none", "some", "far", "drop", "undo", "more", "near",
)


def outcome(call, *args, **more):
    """What a call returns, or the class and the value of what it raises."""
    try:
        found = call(*args, **more)
    except AskedError as error:
        return error.__class__, error.value
    return found.text if found.__class__ is Page else found


def calls(chance, page, other, sheet):
    """(function or method, arguments by name) for all of the interface that returns something and changes nothing."""
    part, whole = chance.choice(page.parts), chance.choice(page.parts)
    make = chance.choice((random_statement, differing_statement))
    statement, total = make(chance, page), chance.randint(1, 150)
    counts = random_counts(chance, page, 9)
    table = Table(page, counts)
    offers = ((3, f"part {page.parts[1]} of {page.parts[0]}", 2), (len(page.parts) + 1, "", 1))
    offers = offers if offers[0] < offers[1] else offers[::-1]
    wishes = ((statement, chance.choice(("always", "never", "open"))),)
    found = [
        (shown, {"units": page.units, "many": min(counts), "whole": sum(counts)}),
        (stretch, {"units": page.units, "share": chance.choice((0, 1, "none", "some"))}),
        (page.beneath, {"part": part}), (page.ends_of, {"part": part}), (page.told, {"part": part, "share": "some"}),
        (page.told_far, {"part": part, "share": None}), (table.share, {"part": part, "other": whole}),
        (table.shows, {"part": part}), (rows, {"page": page}), (possible, {"page": page}), (step, {"page": page}),
        (is_paper, {"page": page, "more": rows(other)[:2], "value": possible(page)[1]}),
        (both, {"one": page, "other": other}), (judged, {"page": page, "statement": statement}),
        (ratio, {"page": page, "part": part, "other": whole}), (within, {"one": page, "other": other}),
        (alike, {"one": page, "other": other}), (can, {"page": page, "total": total}),
        (counts_at, {"page": page, "total": total, "part": part}),
        (totals, {"page": page, "low": 1, "high": chance.randint(1, 40)}),
        (cheapest, {"page": page, "offers": offers, "wishes": wishes}), (journal, {"sheet": sheet}),
        (sheet.judged, {"statement": statement}), (sheet.news, {"statement": statement}),
        (sheet.tried, {"look": lambda one: (one.drop(part), one.page.text)[1], "keep": 1}),
        (read_journal, {"text": journal(sheet)}),
    ]
    shows = {
        possible: shows_possible, both: shows_both, judged: shows_judged, ratio: shows_ratio, within: shows_within,
        alike: shows_alike, can: shows_can, cheapest: shows_cheapest,
    }
    for call, args in list(found):
        if call in shows:
            own = outcome(call, **args)
            found.append((shows[call], {**args, "value": own}))
            found.append((shows[call], {**args, "value": chance.choice(any_values())}))
    return found


class InterfaceTest(unittest.TestCase):
    def module(self, name):
        return importlib.import_module("anyasked." + name)

    def test_functions(self):
        for file, functions in FUNCTIONS.items():
            for name, names in functions.items():
                with self.subTest(name):
                    call = getattr(self.module(file), name)
                    self.assertTrue(inspect.isfunction(call))
                    self.assertEqual((call.__module__, call.__name__), ("anyasked." + file, name))
                    parameters = inspect.signature(call).parameters.values()
                    self.assertEqual([one.name for one in parameters], names.split())
                    self.assertEqual({one.kind for one in parameters}, {inspect.Parameter.POSITIONAL_OR_KEYWORD})

    def test_classes(self):
        for file, (name, names, properties, methods) in CLASSES.items():
            own = getattr(self.module(file), name)
            self.assertEqual((own.__module__, own.__name__), ("anyasked." + file, name))
            self.assertEqual(list(inspect.signature(own).parameters), names.split())
            for listed in properties.split():
                self.assertIn(listed, vars(own))
            for method, arguments in methods.items():
                with self.subTest(method):
                    self.assertIn(method, vars(own))
                    parameters = list(inspect.signature(vars(own)[method]).parameters.values())[1:]
                    self.assertEqual([one.name for one in parameters], arguments.split())
        keep = inspect.signature(Sheet.tried).parameters["keep"]
        self.assertEqual((keep.kind, keep.default), (inspect.Parameter.KEYWORD_ONLY, False))

    def test_the_folder_holds_nothing_but_its_files(self):
        folder = os.path.dirname(self.module("errors").__file__)
        names = [name for name in os.listdir(folder) if name != "__pycache__"]
        self.assertEqual([name for name in names if not name.endswith(".py")], [])
        self.assertIn("__init__.py", names)


class CallsTest(unittest.TestCase, Refusals):
    def asked(self, chance):
        page, counts = counted_page(chance)
        if chance.random() < 0.3:
            page = any_page(chance)
            counts = random_counts(chance, page, 9)
        other = shown_page(chance, page_of(page.units, {
            part: (page[part][0], None, None) for part in page.parts
        }), counts)
        return page, other, random_sheet(chance, page)[0]

    def test_equal_calls_by_position_by_name_and_in_another_sequence(self):
        chance = random.Random(191)
        for _ in range(25):
            page, other, sheet = self.asked(chance)
            texts, ahead = (page.text, other.text), state(sheet)
            for call, args in calls(chance, page, other, sheet):
                kept = {name: repr(value) for name, value in args.items()}
                own = outcome(call, **args)
                turned = dict(reversed(list(args.items())))
                self.assertEqual(outcome(call, **turned), own, call)
                by_position = [value for name, value in args.items() if name != "keep"]
                self.assertEqual(outcome(call, *by_position), own, call)
                self.assertEqual({name: repr(value) for name, value in args.items()}, kept, call)
                self.assertEqual(((page.text, other.text), state(sheet)), (texts, ahead), call)
            self.assertEqual(Page(text=page.text), page)
            counts = random_counts(chance, page, 9)
            self.assertEqual(Table(counts=counts, page=page), Table(page, counts))
            self.assertEqual(Desk(text=journal(sheet)).sheet, Sheet(page=page) if sheet.done == 0 else sheet)

    def test_equal_calls_of_new_pages_tell_the_same(self):
        chance = random.Random(192)
        for _ in range(15):
            page, other, sheet = self.asked(chance)
            seed = chance.random()
            found = []
            for _ in range(2):
                again = Page(page.text), Page(other.text), read_journal(journal(sheet))
                found.append([
                    outcome(call, **args) for call, args in calls(random.Random(seed), *again)
                    if call not in (shown, shows_possible)
                ])
            self.assertEqual(found[0], found[1])

    def test_no_part_and_no_above(self):
        page = Page(EXAMPLE)
        table, sheet = Table(page, (7, 5, 5, 3)), Sheet(page)
        desk = Desk(EXAMPLE + "\ntold")
        take = [
            page.beneath, page.ends_of, lambda part: page[part], lambda part: page.told(part, 5),
            lambda part: page.told_far(part, 5), lambda part: table[part], lambda part: table.share(part, "all"),
            lambda part: table.share("all", part), table.shows, lambda part: ratio(page, part, "all"),
            lambda part: ratio(page, "all", part), lambda part: shows_ratio(page, part, part, None),
            lambda part: counts_at(page, 52, part), lambda part: sheet[part], lambda part: sheet.tell(part, 5),
            lambda part: sheet.tell_far(part, 5), sheet.drop, lambda part: sheet.__setitem__(part, 5),
        ]
        for value in any_values() + ["nobody"]:
            if value.__class__ is str and value in page.parts:
                continue
            for call in take:
                self.refuses(NoPart, value, call, value)
            self.assertFalse(value in page or value in sheet)
        for call in (
            table.shows, sheet.drop, lambda part: page.told(part, None), lambda part: page.told_far(part, 500),
            lambda part: sheet.tell(part, 500), lambda part: sheet.tell_far(part, None),
            lambda part: sheet.__setitem__(part, "x"),
        ):
            self.refuses(NoAbove, "all", call, "all")
        self.assertEqual((page.text, table.counts, journal(sheet)), (EXAMPLE, (7, 5, 5, 3), EXAMPLE + "\ntold"))
        self.assertEqual(journal(desk.sheet), EXAMPLE + "\ntold")

    def test_parts_called_by_words_of_lines(self):
        chance = random.Random(193)
        for _ in range(25):
            page, counts = counted_page(chance, told=0.5)
            names = dict(zip(page.parts, chance.sample(WORDS, len(page.parts))))
            lines = {}
            for part in page.parts:
                above, near, far = page[part]
                lines[names[part]] = (names.get(above), near, far)
            other = page_of(page.units, lines)
            self.assertEqual(other.parts, tuple(names[part] for part in page.parts))
            # The names do not matter to what is told.
            self.assertEqual((rows(other), possible(other)), (rows(page), possible(page)))
            self.assertEqual((step(other), totals(other, 1, 30)), (step(page), totals(page, 1, 30)))
            one, two = chance.choice(page.parts), chance.choice(page.parts)
            self.assertEqual(outcome(ratio, other, names[one], names[two])[0], outcome(ratio, page, one, two)[0])
            self.assertEqual(Table(other, counts).share(names[one], names[two]), Table(page, counts).share(one, two))
            sheet, _ = random_sheet(chance, other)
            self.assertEqual(read_journal(journal(sheet)), sheet)
            desk = Desk(journal(sheet))
            shown_shares = ["-" if share is None else str(share) for share in sheet[names[one]][1:]]
            self.assertEqual(desk.say("part " + names[one]), " ".join(shown_shares))
            if one != two:
                statement = (tuple(sorted(((names[one], 1), (names[two], -1)))), "more")
                own = outcome(judged, sheet.page, statement)
                told = outcome(desk.say, f"more {names[one]} {names[two]}")
                self.assertEqual(told, own if own[0] is NoTable else own[0])


class SignsTest(unittest.TestCase):
    def test_signs_beside_what_is_told(self):
        page = Page(EXAMPLE)
        sheet, desk = Sheet(page), Desk(EXAMPLE + "\ntold")
        signs = [
            lambda a, b: a + b, lambda a, b: a - b, lambda a, b: a * b, lambda a, b: a / b, lambda a, b: a // b,
            lambda a, b: a % b, lambda a, b: a ** b, lambda a, b: a & b, lambda a, b: a | b, lambda a, b: a ^ b,
            lambda a, b: a << b, lambda a, b: a >> b, lambda a, b: a @ b, divmod, lambda a, b: a < b,
            lambda a, b: a <= b, lambda a, b: a > b, lambda a, b: a >= b,
        ]
        for one in (page, sheet, desk):
            for value in (0, 1, True, None, (), (1,), [], {}, page, sheet, desk):
                for sign in signs:
                    self.assertRaises(TypeError, sign, one, value)
                    self.assertRaises(TypeError, sign, value, one)
            for sign in (lambda a: -a, lambda a: +a, lambda a: ~a, abs):
                self.assertRaises(TypeError, sign, one)
        for one in (page, Table(page, (7, 5, 5, 3)), desk):
            with self.assertRaises(TypeError):
                one["open"] = 24
        for one in (Table(page, (7, 5, 5, 3)), desk):
            self.assertRaises(TypeError, len, one)
            with self.assertRaises(TypeError):
                "open" in one
        with self.assertRaises(TypeError):
            desk["open"]
        self.assertEqual((page.text, sheet.done, journal(desk.sheet)), (EXAMPLE, 0, EXAMPLE + "\ntold"))


class LiveTest(unittest.TestCase):
    def test_a_sheet_tells_what_its_page_tells(self):
        chance = random.Random(194)
        refused = 0
        for _ in range(40):
            sheet, _ = random_sheet(chance)
            for _ in range(4):
                statement = random_statement(chance, sheet.page)
                told = outcome(judged, sheet.page, statement)
                self.assertEqual(outcome(sheet.judged, statement), told if told[0] is NoTable else told[0])
                self.assertEqual([sheet[part] for part in sheet.page.parts], [
                    sheet.page[part] for part in sheet.page.parts
                ])
                name, args = random_deed(chance, sheet)
                ahead = state(sheet)
                found = outcome(getattr(sheet, name), *args)
                if found is None:
                    sheet.undo()
                    self.assertEqual(state(sheet)[:4], ahead[:4])
                    sheet.redo()
                else:
                    self.assertEqual(state(sheet), ahead)
                if found is not None and found[0] is Contrary:
                    refused += 1
        self.assertGreater(refused, 5)

    def test_what_is_told_of_all_numbers_is_so_of_small_tables(self):
        chance = random.Random(195)
        for _ in range(40):
            bare = bare_page(chance, 3)
            page = shown_page(chance, bare, random_counts(chance, bare, 5), 0.4)
            statement = differing_statement(chance, page)
            sheet = Sheet(page)
            # Each deed tells one share more.
            for part in page.parts[1:]:
                if page[part][1] is None:
                    outcome(sheet.tell, part, chance.randint(0, page.units[0]))
            words = sheet.news(statement)
            fitting = [counts for counts in small_tables(page, 5) if fits(sheet.page, counts)]
            for counts in fitting:
                self.assertTrue(fits(page, counts))
                self.assertIn(words[-1], ("open", "always" if holds(page, statement, counts) else "never"))
            for before, behind in zip(words, words[1:]):
                self.assertIn(before, ("open", behind))

    def test_papers_of_contrary_are_right(self):
        chance = random.Random(196)
        many = 0
        while many < 40:
            sheet, _ = random_sheet(chance)
            part, share = chance.choice(sheet.page.parts[1:]), chance.randint(0, sheet.page.units[0])
            try:
                sheet.tell_far(part, share)
            except Contrary as error:
                many += 1
                self.assertTrue(is_right_paper(rows_of(sheet.page.told_far(part, share)), error.value))


if __name__ == "__main__":
    unittest.main()
