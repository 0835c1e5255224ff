"""Point 3: (a) all numbers, (b) adding, (c) more figures."""

import random
import unittest

from anyasked.errors import NoTable
from anyasked.holding import judged
from anyasked.pages import Page
from anyasked.possible import both, possible
from anyasked.tables import Table
from tests.countedpages import bare_page, counted_page, random_counts, shown_page
from tests.pagetexts import EXAMPLE, random_share
from tests.reckoning import fits, holds, small_tables
from tests.statements import differing_statement, random_statement


def some_statement(chance, page):
    return chance.choice((random_statement, differing_statement))(chance, page)


class AllNumbersTest(unittest.TestCase):
    def check(self, page, statement, fitting):
        """What judged tells is so in all these tables that fit."""
        found = judged(page, statement)
        so = {holds(page, statement, counts) for counts in fitting}
        if found[0] == "open":
            self.assertEqual([holds(page, statement, counts) for counts in found[1:]], [True, False])
            self.assertEqual([Table(page, counts).fits for counts in found[1:]], [True, True])
        else:
            self.assertEqual(so, {found[0] == "always"}, (page.text, statement))
        return found[0]

    def test_small_tables(self):
        chance = random.Random(31)
        seen = {}
        for _ in range(150):
            page, _ = counted_page(chance, 6, 0.4, 3)
            fitting = [counts for counts in small_tables(page, 6) if fits(page, counts)]
            self.assertGreater(len(fitting), 0)
            for _ in range(4):
                told = self.check(page, some_statement(chance, page), fitting)
                seen[told] = seen.get(told, 0) + 1
        self.assertGreater(min(seen.values()), 20, seen)

    def test_small_tables_of_the_example(self):
        page = Page(EXAMPLE)
        fitting = [
            (no, open_, young, old)
            for no in range(15, 40) for open_ in range(10, 30) for young in range(8, 30) for old in range(5, 19)
            if fits(page, (no, open_, young, old))
        ]
        self.assertIn((18, 13, 13, 8), fitting)
        self.assertGreater(len(fitting), 10)
        chance = random.Random(32)
        for _ in range(150):
            self.check(page, some_statement(chance, page), fitting)

    def test_what_can_be_is_so_by_a_table_that_fits(self):
        chance = random.Random(33)
        for _ in range(150):
            page, counts = counted_page(chance)
            other = shown_page(chance, page, counts)
            self.assertIs(Table(page, possible(page)[1]).fits, True)
            found = both(page, other)
            self.assertEqual([Table(one, found[1]).fits for one in (page, other)], [True, True])


class AddingTest(unittest.TestCase):
    def test_sums_and_multiples_fit(self):
        chance = random.Random(34)
        many = 0
        for _ in range(200):
            bare = bare_page(chance, 3)
            page = shown_page(chance, bare, random_counts(chance, bare, 5), 0.4)
            fitting = [Table(page, counts) for counts in small_tables(page, 5) if fits(page, counts)]
            chance.shuffle(fitting)
            for one, other in zip(fitting, fitting[1:12]):
                self.assertIs((one + other).fits, True)
                self.assertIs((chance.randint(1, 9999) * one + other * chance.randint(1, 9999)).fits, True)
                many += 1
        self.assertGreater(many, 300)

    def test_great_ones_fit(self):
        chance = random.Random(35)
        for _ in range(100):
            page, counts = counted_page(chance)
            one, other = Table(page, counts), Table(page, possible(page)[1])
            self.assertEqual([one.fits, other.fits, (one + other).fits, (one + 9999 * other).fits], [True] * 4)
            for _ in range(10):
                one = 9999 * one + other
            self.assertIs(one.fits, True)


class MoreFiguresTest(unittest.TestCase):
    def test_what_is_told_stays_so(self):
        chance = random.Random(36)
        seen = {}
        for _ in range(400):
            page, counts = counted_page(chance, told=0.4)
            statement = some_statement(chance, page)
            told = judged(page, statement)[0]
            untold = [part for part in page.parts[1:] if page[part][1] is None]
            untold_far = [part for part in page.parts[1:] if page[part][2] is None]
            right = shown_page(chance, page, counts, 1.0)
            further = [page.told(part, right[part][1]) for part in untold]
            further += [page.told_far(part, right[part][2]) for part in untold_far]
            further += [page.told(part, random_share(chance, page.units[0])) for part in untold]
            for more in further:
                try:
                    behind = judged(more, statement)[0]
                except NoTable:
                    behind = "none"
                    self.assertEqual(possible(more)[0], "never")
                seen[told, behind] = seen.get((told, behind), 0) + 1
        words = ("always", "never", "open", "none")
        expected = {("open", word) for word in words} | {(word, word) for word in words[:2]}
        expected |= {(word, "none") for word in words[:2]}
        self.assertEqual(set(seen), expected)
        self.assertGreater(min(seen.values()), 5, seen)

    def test_one_behind_the_other(self):
        chance = random.Random(37)
        for _ in range(60):
            page, counts = counted_page(chance, told=0)
            right = shown_page(chance, page, counts, 1.0)
            statement = some_statement(chance, page)
            told = judged(page, statement)[0]
            for part in page.parts[1:]:
                near = page.told(part, right[part][1])
                page = near.told_far(part, right[part][2])
                for more in (near, page):
                    self.assertEqual(possible(more)[0], "table")
                    behind = judged(more, statement)[0]
                    self.assertIn(told, ("open", behind))
                    told = behind
            self.assertIs(Table(page, counts).fits, True)


if __name__ == "__main__":
    unittest.main()
