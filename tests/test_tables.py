"""Point 6: what a table tells."""

import random
import unittest
from fractions import Fraction
from operator import getitem

from anyasked.errors import BadCounts, NoAbove, NoPart
from anyasked.pages import Page
from anyasked.tables import Table
from tests.anyvalues import Refusals, any_values
from tests.countedpages import bare_page, counted_page, moved_page, random_counts, shown_page
from tests.pagetexts import EXAMPLE, HOWS
from tests.reckoning import belongs, fits, is_counts, is_kind, is_right, many_in, rounded, small_tables

TREE = "in 10 near\nasked all\npart a of all\npart b of a\npart c of a\npart d of c\npart e of all"


def exact(fraction):
    return fraction.numerator, fraction.denominator


class TellingTest(unittest.TestCase, Refusals):
    def same(self, page, counts):
        """The table tells just what the counts are."""
        table = Table(page, counts)
        self.assertIs(table.page, page)
        self.assertEqual(table.counts, counts)
        self.assertEqual(table.total, sum(counts))
        self.assertIs(table.fits, fits(page, counts), (page.text, counts))
        many = {part: many_in(page, counts, part) for part in page.parts}
        for part in page.parts:
            self.assertEqual(table[part], many[part])
            for other in page.parts:
                share = None if many[other] == 0 else exact(Fraction(many[part], many[other]))
                self.assertEqual(table.share(part, other), share)
        for part in page.parts[1:]:
            base, how = page.units
            whole = many[page[part][0]]
            near = rounded(how, Fraction(base * many[part], whole)) if whole else None
            self.assertEqual(table.shows(part), (near, rounded(how, Fraction(base * many[part], sum(counts)))))

    def test_the_documents_example(self):
        table = Table(Page(EXAMPLE), (7, 5, 5, 3))
        told = [table.total, table["yes"], table.share("young", "yes"), table.shows("no"), table.shows("young")]
        self.assertEqual(told, [20, 8, (5, 8), (35, 35), (63, 25)])
        self.assertIs(table.fits, False)
        self.assertEqual((2 * table + table).counts, (21, 15, 15, 9))

    def test_by_hand(self):
        page = Page(TREE)
        self.assertEqual((page.parts, page.ends), (("all", "a", "b", "c", "d", "e"), ("b", "d", "e")))
        table = Table(page, (1, 2, 4))
        self.assertEqual([table[part] for part in page.parts], [7, 3, 1, 2, 2, 4])
        self.assertEqual([table.share("b", part) for part in page.parts], [
            (1, 7), (1, 3), (1, 1), (1, 2), (1, 2), (1, 4),
        ])
        self.assertEqual([table.share(part, "c") for part in page.parts], [
            (7, 2), (3, 2), (1, 2), (1, 1), (1, 1), (2, 1),
        ])
        self.assertEqual([table.shows(part) for part in page.parts[1:]], [(4, 4), (3, 1), (7, 3), (10, 3), (6, 6)])
        self.assertIs(table.fits, True)

    def test_parts_with_nobody(self):
        table = Table(Page(TREE), (0, 0, 3))
        self.assertEqual([table[part] for part in table.page.parts], [3, 0, 0, 0, 0, 3])
        self.assertEqual([table.share(part, "a") for part in table.page.parts], [None] * 6)
        self.assertEqual([table.share("a", part) for part in ("all", "e", "d")], [(0, 1), (0, 1), None])
        self.assertEqual([table.shows(part) for part in table.page.parts[1:]], [
            (0, 0), (None, 0), (None, 0), (None, 0), (10, 10),
        ])
        self.assertIs(table.fits, True)

    def test_at_random(self):
        chance = random.Random(61)
        seen = set()
        for _ in range(300):
            page, counts = counted_page(chance)
            self.same(page, counts)
            self.assertIs(Table(page, counts).fits, True)
            seen.add(len(page.ends))
            moved = moved_page(chance, page)
            self.same(moved, counts)
            self.same(moved, random_counts(chance, page, 9))
        self.assertEqual(seen, {1, 2, 3, 4, 5, 6})

    def test_long_counts(self):
        page = Page(EXAMPLE)
        long = 10 ** 40
        self.same(page, (7 * long, 5 * long + 1, 0, 3))
        self.same(page, (7 * long, 5 * long, 5 * long, 3 * long))

    def test_kinds(self):
        table = Table(Page(EXAMPLE), (7, 5, 5, 3))
        for value in (table.total, table["all"], table["no"], table.shows("no")[0], table.shows("no")[1]):
            self.assertIs(value.__class__, int)
        for value in (table.counts, table.share("no", "all"), table.shows("no"), table.shows("young")):
            self.assertIs(value.__class__, tuple)
        self.assertIs(table.fits.__class__, bool)

    def test_by_name(self):
        page = Page(EXAMPLE)
        table = Table(page=page, counts=(7, 5, 5, 3))
        self.assertEqual(table, Table(counts=(7, 5, 5, 3), page=page))
        self.assertEqual(table.share(part="young", other="yes"), (5, 8))
        self.assertEqual(table.share(other="yes", part="young"), (5, 8))
        self.assertEqual(table.shows(part="young"), (63, 25))
        self.refuses(BadCounts, 3, Table, page=page, counts=3)
        self.refuses(NoPart, "x", table.share, other="yes", part="x")
        self.refuses(NoAbove, "all", table.shows, part="all")

    def test_methods_and_properties_stand_in_the_class_itself(self):
        for name in ("page", "counts", "total", "share", "shows", "fits"):
            self.assertIn(name, vars(Table))
        self.assertEqual(Table.__module__, "anyasked.tables")


class FitsTest(unittest.TestCase):
    def one_part(self, how, share, told="is"):
        return Page(f"in 10 {how}\nasked all\npart a of all {told} {share}\npart b of all")

    def fitting(self, how, share, told="is"):
        """Of how many of 40 the share is right."""
        page = self.one_part(how, share, told)
        return [many for many in range(41) if Table(page, (many, 40 - many)).fits]

    def test_both_ends_of_what_is_shown(self):
        # Of 40 a unit is 4.
        cases = {
            ("near", 0): range(0, 2), ("near", 1): range(2, 6), ("near", 2): range(6, 10), ("near", 10): range(38, 41),
            ("even", 0): range(0, 3), ("even", 1): range(3, 6), ("even", 2): range(6, 11), ("even", 10): range(38, 41),
            ("down", 0): range(0, 4), ("down", 1): range(4, 8), ("down", 9): range(36, 40), ("down", 10): [40],
            ("up", 0): [0], ("up", 1): range(1, 5), ("up", 2): range(5, 9), ("up", 10): range(37, 41),
        }
        for (how, share), told in cases.items():
            for way in ("is", "all"):
                with self.subTest((how, share, way)):
                    self.assertEqual(self.fitting(how, share, way), list(told))

    def test_none_and_some(self):
        for how in HOWS:
            for way in ("is", "all"):
                self.assertEqual(self.fitting(how, "none", way), [0])
                self.assertEqual(self.fitting(how, "some", way), [1, 2, 3])

    def test_just_one_share_of_two_is_right(self):
        text = "in 10 near\nasked all\npart a of all\npart b of a is 5 all 3\npart c of a\npart d of all"
        self.assertIs(Table(Page(text), (3, 3, 4)).fits, True)
        self.assertIs(Table(Page(text), (3, 4, 3)).fits, False)
        self.assertIs(Table(Page(text), (4, 4, 2)).fits, False)
        self.assertIs(Table(Page(text.replace(" all 3", "")), (4, 4, 2)).fits, True)
        self.assertIs(Table(Page(text.replace(" is 5", "")), (3, 4, 3)).fits, True)

    def test_a_share_of_a_whole_with_nobody(self):
        for share in (0, 10, "none", "some", 5):
            page = Page(f"in 10 near\nasked all\npart a of all\npart b of a is {share}\npart c of all")
            self.assertIs(Table(page, (0, 5)).fits, False)
        page = Page("in 10 near\nasked all\npart a of all is none\npart b of a all none\npart c of all")
        self.assertIs(Table(page, (0, 5)).fits, True)
        self.assertIs(Table(page, (1, 5)).fits, False)

    def test_nothing_told(self):
        page = Page("in 10 near\nasked all\npart a of all\npart b of a\npart c of all")
        for counts in small_tables(page, 3):
            self.assertIs(Table(page, counts).fits, True)

    def test_all_small_tables_of_some_pages(self):
        chance = random.Random(62)
        for _ in range(60):
            bare = bare_page(chance, 3)
            page = shown_page(chance, bare, random_counts(chance, bare, 6))
            for counts in small_tables(page, 6):
                self.assertIs(Table(page, counts).fits, fits(page, counts), (page.text, counts))

    def test_right_shares_of_nobody(self):
        for share in (0, 5, "none", "some"):
            self.assertFalse(is_right((10, "near"), share, 0, 0))


class RefusingTest(unittest.TestCase, Refusals):
    def test_bad_counts(self):
        page = Page(EXAMPLE)
        wrong = [
            (0, 0, 0, 0), (1, 1, 1), (1, 1, 1, 1, 1), (1,), (-1, 5, 5, 5), (5, 5, 5, -1), (True, 1, 1, 1),
            (1, 1, 1, False), [7, 5, 5, 3], (7, 5, 5, None), (7, 5, 5, "3"), (7, 5, 5, (3,)), ((7, 5, 5, 3),),
            ((7, 5), (5, 3)), {0: 7}, "7553", (7, 5, 5, [3]), (1, 1, 1, page), (-1, 0, 0, 1), (0, 0, 0, -1),
            Table(page, (7, 5, 5, 3)), 4, (1, 2, 3, {}),
        ]
        for value in wrong + any_values():
            if not is_counts(page, value):
                self.refuses(BadCounts, value, Table, page, value)

    def test_bad_counts_of_one_end(self):
        page = Page("in 2 up\nasked x\npart y of x")
        self.assertEqual(Table(page, (1,)).counts, (1,))
        for value in ((0,), (-1,), (True,), [1], 1, (), (1, 0), (1, 1), (None,)):
            self.refuses(BadCounts, value, Table, page, value)

    def test_counts_of_any_kind(self):
        page = Page("in 2 up\nasked x\npart y of x\npart z of x")
        for value in any_values():
            for other in (0, 1, 5):
                for counts in ((value, other), (other, value)):
                    if is_kind(value, int) and value >= 0 and value + other > 0:
                        self.assertEqual(Table(page, counts).counts, counts)
                    else:
                        self.refuses(BadCounts, counts, Table, page, counts)

    def test_no_part(self):
        table = Table(Page(EXAMPLE), (7, 5, 5, 3))
        for value in any_values() + ["nobody", "Yes", "yes ", ("yes",), ["yes"], 0, 1, -1, table]:
            if value in ("all", "yes"):
                continue
            self.refuses(NoPart, value, getitem, table, value)
            self.refuses(NoPart, value, table.share, value, "yes")
            self.refuses(NoPart, value, table.share, "yes", value)
            self.refuses(NoPart, value, table.shows, value)
            for other in ("nobody", None, [], table):
                self.refuses(NoPart, value, table.share, value, other)

    def test_no_above(self):
        first = "".join(["al", "l"])
        table = Table(Page(EXAMPLE), (7, 5, 5, 3))
        self.refuses(NoAbove, first, table.shows, first)

    def test_a_refusal_changes_nothing(self):
        table = Table(Page(EXAMPLE), (7, 5, 5, 3))
        first = self.everything(table)
        self.refuses(NoPart, "x", table.share, "x", "y")
        self.refuses(NoAbove, "all", table.shows, "all")
        self.refuses(BadCounts, (), Table, table.page, ())
        self.assertEqual(self.everything(table), first)

    def everything(self, table):
        parts = table.page.parts
        shares = [table.share(part, other) for part in parts for other in parts]
        shows = [table.shows(part) for part in parts[1:]]
        return table.page.text, table.counts, table.total, table.fits, [table[part] for part in parts], shares, shows

    def test_equal_calls_return_equal_results(self):
        one, other = (Table(Page(EXAMPLE), (7, 5, 5, 3)) for _ in range(2))
        self.assertEqual(self.everything(one), self.everything(other))
        self.assertEqual(self.everything(one), self.everything(one))

    def test_ends_belong_to_what_is_above_them(self):
        page = Page(TREE)
        told = {part: "".join(end for end in page.ends if belongs(page, end, part)) for part in page.parts}
        self.assertEqual(told, {"all": "bde", "a": "bd", "b": "b", "c": "d", "d": "d", "e": "e"})


if __name__ == "__main__":
    unittest.main()
