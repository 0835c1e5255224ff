"""Point 3: (a) all numbers, (b) adding, (c) more figures, (d) totals."""

import random
import unittest
from fractions import Fraction

from anyasked.comparing import within
from anyasked.errors import Empty, NoTable
from anyasked.holding import judged
from anyasked.pages import Page
from anyasked.possible import both, possible
from anyasked.ranges import ratio
from anyasked.tables import Table
from anyasked.totals import can, counts_at, step, totals
from tests.countedpages import bare_page, counted_page, random_counts, shown_page
from tests.pagetexts import EXAMPLE, random_share
from tests.ratios import lies_within
from tests.reckoning import fits, holds, many_in, small_tables
from tests.statements import differing_statement, random_statement


def some_statement(chance, page):
    return chance.choice((random_statement, differing_statement))(chance, page)


class AllNumbersTest(unittest.TestCase):
    def check(self, page, statement, fitting):
        """What judged tells is so in all these tables that fit."""
        found = judged(page, statement)
        so = {holds(page, statement, counts) for counts in fitting}
        if found[0] == "open":
            self.assertEqual([holds(page, statement, counts) for counts in found[1:]], [True, False])
            self.assertEqual([Table(page, counts).fits for counts in found[1:]], [True, True])
        else:
            self.assertEqual(so, {found[0] == "always"}, (page.text, statement))
        return found[0]

    def test_small_tables(self):
        chance = random.Random(31)
        seen = {}
        for _ in range(150):
            page, _ = counted_page(chance, 6, 0.4, 3)
            fitting = [counts for counts in small_tables(page, 6) if fits(page, counts)]
            self.assertGreater(len(fitting), 0)
            for _ in range(4):
                told = self.check(page, some_statement(chance, page), fitting)
                seen[told] = seen.get(told, 0) + 1
        self.assertGreater(min(seen.values()), 20, seen)

    def test_small_tables_of_the_example(self):
        page = Page(EXAMPLE)
        fitting = [
            (no, open_, young, old)
            for no in range(15, 40) for open_ in range(10, 30) for young in range(8, 30) for old in range(5, 19)
            if fits(page, (no, open_, young, old))
        ]
        self.assertIn((18, 13, 13, 8), fitting)
        self.assertGreater(len(fitting), 10)
        chance = random.Random(32)
        for _ in range(150):
            self.check(page, some_statement(chance, page), fitting)

    def test_what_can_be_is_so_by_a_table_that_fits(self):
        chance = random.Random(33)
        for _ in range(150):
            page, counts = counted_page(chance)
            other = shown_page(chance, page, counts)
            self.assertIs(Table(page, possible(page)[1]).fits, True)
            found = both(page, other)
            self.assertEqual([Table(one, found[1]).fits for one in (page, other)], [True, True])


class AddingTest(unittest.TestCase):
    def test_sums_and_multiples_fit(self):
        chance = random.Random(34)
        many = 0
        for _ in range(200):
            bare = bare_page(chance, 3)
            page = shown_page(chance, bare, random_counts(chance, bare, 5), 0.4)
            fitting = [Table(page, counts) for counts in small_tables(page, 5) if fits(page, counts)]
            chance.shuffle(fitting)
            for one, other in zip(fitting, fitting[1:12]):
                self.assertIs((one + other).fits, True)
                self.assertIs((chance.randint(1, 9999) * one + other * chance.randint(1, 9999)).fits, True)
                many += 1
        self.assertGreater(many, 300)

    def test_great_ones_fit(self):
        chance = random.Random(35)
        for _ in range(100):
            page, counts = counted_page(chance)
            one, other = Table(page, counts), Table(page, possible(page)[1])
            self.assertEqual([one.fits, other.fits, (one + other).fits, (one + 9999 * other).fits], [True] * 4)
            for _ in range(10):
                one = 9999 * one + other
            self.assertIs(one.fits, True)


class MoreFiguresTest(unittest.TestCase):
    def test_what_is_told_stays_so(self):
        chance = random.Random(36)
        seen = {}
        for _ in range(400):
            page, counts = counted_page(chance, told=0.4)
            statement = some_statement(chance, page)
            told = judged(page, statement)[0]
            untold = [part for part in page.parts[1:] if page[part][1] is None]
            untold_far = [part for part in page.parts[1:] if page[part][2] is None]
            right = shown_page(chance, page, counts, 1.0)
            further = [page.told(part, right[part][1]) for part in untold]
            further += [page.told_far(part, right[part][2]) for part in untold_far]
            further += [page.told(part, random_share(chance, page.units[0])) for part in untold]
            for more in further:
                try:
                    behind = judged(more, statement)[0]
                except NoTable:
                    behind = "none"
                    self.assertEqual(possible(more)[0], "never")
                seen[told, behind] = seen.get((told, behind), 0) + 1
        words = ("always", "never", "open", "none")
        expected = {("open", word) for word in words} | {(word, word) for word in words[:2]}
        expected |= {(word, "none") for word in words[:2]}
        self.assertEqual(set(seen), expected)
        self.assertGreater(min(seen.values()), 5, seen)

    def test_one_behind_the_other(self):
        chance = random.Random(37)
        for _ in range(60):
            page, counts = counted_page(chance, told=0)
            right = shown_page(chance, page, counts, 1.0)
            statement = some_statement(chance, page)
            told = judged(page, statement)[0]
            for part in page.parts[1:]:
                near = page.told(part, right[part][1])
                page = near.told_far(part, right[part][2])
                for more in (near, page):
                    self.assertEqual(possible(more)[0], "table")
                    behind = judged(more, statement)[0]
                    self.assertIn(told, ("open", behind))
                    told = behind
            self.assertIs(Table(page, counts).fits, True)

    def test_bounds_only_come_together(self):
        chance = random.Random(38)
        seen = {"same": 0, "nearer": 0, "empty": 0, "none": 0}
        for _ in range(150):
            page, counts = counted_page(chance, told=0.4)
            part = chance.choice(page.parts)
            other = chance.choice([other for other in page.parts if many_in(page, counts, other)])
            found = ratio(page, part, other)
            right = shown_page(chance, page, counts, 1.0)
            changed = chance.choice(page.parts[1:])
            more = [page.told_far(changed, right[changed][2])] if page[changed][2] is None else []
            if page[changed][1] is None:
                more += [page.told(changed, right[changed][1]), page.told(changed, random_share(chance, page.units[0]))]
            for further in more:
                try:
                    behind = ratio(further, part, other)
                except NoTable:
                    seen["none"] += 1
                    continue
                except Empty:
                    seen["empty"] += 1
                    continue
                self.assertTrue(is_as_near(found, behind), (page.text, further.text, part, other))
                seen["same" if [side[:2] for side in found] == [side[:2] for side in behind] else "nearer"] += 1
        self.assertGreater(min(seen["same"], seen["nearer"], seen["none"]), 15, seen)

    def test_totals_only_get_fewer(self):
        chance = random.Random(39)
        for _ in range(25):
            page, counts = counted_page(chance, 9, told=0.4)
            right = shown_page(chance, page, counts, 1.0)
            part = chance.choice(page.parts[1:])
            further = page.told(part, right[part][1]).told_far(part, right[part][2])
            if any(own not in (None, new) for own, new in zip(page[part][1:], further[part][1:])):
                continue
            self.assertLessEqual(set(totals(further, 1, 60)), set(totals(page, 1, 60)))
            self.assertEqual(step(further) % step(page), 0)
            self.assertEqual(within(further, page)[0], "within")


def is_as_near(found, behind):
    """Whether the bounds told behind lie within these."""
    low, high = ((Fraction(*side[0]), not side[1]) if side[0] != () else None for side in found)
    further, most = ((Fraction(*side[0]), not side[1]) if side[0] != () else None for side in behind)
    if further < low or (high is not None and most is None):
        return False
    if high is None:
        return True
    return most[0] < high[0] or (most[0] == high[0] and most[1] >= high[1])


class TotalsTest(unittest.TestCase):
    def test_small_tables(self):
        chance = random.Random(40)
        stepped = 0
        for _ in range(160):
            bare = bare_page(chance, 3)
            page = shown_page(chance, bare, random_counts(chance, bare, 5), chance.choice((0.4, 0.9)))
            found = step(page)
            every = totals(page, 1, 18)
            fitting = [counts for counts in small_tables(page, 6) if fits(page, counts)]
            stepped += found > 1
            bounds = {}
            for counts in fitting:
                total = sum(counts)
                self.assertEqual(total % found, 0)
                self.assertIn(total, every)
                self.assertEqual(can(page, total)[0], "can")
                for part in page.parts:
                    self.assertIn(many_in(page, counts, part), counts_at(page, total, part))
                    if part not in bounds:
                        bounds[part] = ratio(page, part, page.parts[0])
                    self.assertTrue(lies_within(bounds[part], Fraction(many_in(page, counts, part), total)))
        self.assertGreater(stepped, 10)

    def test_sums(self):
        chance = random.Random(41)
        for _ in range(40):
            page, counts = counted_page(chance, 12)
            for total in {sum(counts), *totals(page, 1, 20)}:
                if total + sum(counts) <= 150:
                    self.assertEqual(can(page, total + sum(counts))[0], "can")


if __name__ == "__main__":
    unittest.main()
