"""Point 7: the rows of a page."""

import random
import unittest

from anyasked.pages import Page
from anyasked.rows import rows
from anyasked.shares import stretch
from anyasked.tables import Table
from tests.countedpages import any_page, bare_page, counted_page, random_counts, shown_page
from tests.pagetexts import EXAMPLE, HOWS
from tests.reckoning import is_so, rows_of, small_tables


def one_share(units, share, told="is"):
    return Page(f"in {units[0]} {units[1]}\nasked all\npart a of all {told} {share}\npart b of all")


class RowsTest(unittest.TestCase):
    def test_the_documents_example(self):
        found = rows(Page(EXAMPLE))
        self.assertEqual(len(found), 14)
        self.assertEqual(found[5:8], (
            ((1, 1, 1, 1), "more"), ((-79, -79, 121, 121), "least"), ((81, 81, -119, -119), "more"),
        ))

    def test_the_whole_example(self):
        self.assertEqual(rows(Page(EXAMPLE)), (
            ((1, 0, 0, 0), "least"), ((0, 1, 0, 0), "least"), ((0, 0, 1, 0), "least"), ((0, 0, 0, 1), "least"),
            ((1, 1, 1, 1), "more"),
            ((1, 1, 1, 1), "more"), ((-79, -79, 121, 121), "least"), ((81, 81, -119, -119), "more"),
            ((1, 1, 1, 1), "more"), ((131, -69, -69, -69), "least"), ((-129, 71, 71, 71), "more"),
            ((0, 0, 1, 1), "more"), ((0, 0, 77, -123), "least"), ((0, 0, -3, 5), "more"),
        ))

    def test_a_page_of_one_part(self):
        page = Page("in 2 up\nasked x\npart y of x")
        self.assertEqual(rows(page), (((1,), "least"), ((1,), "more")))
        self.assertEqual(rows(page.told("y", 1)), (
            ((1,), "least"), ((1,), "more"), ((1,), "more"), ((1,), "more"), ((-1,), "least"),
        ))

    def test_both_shares_of_one_part(self):
        page = Page("in 10 down\nasked x\npart y of x\npart z of y is 3 all none\npart v of y\npart w of x is 0 all 1")
        self.assertEqual(page.ends, ("z", "v", "w"))
        self.assertEqual(rows(page)[3:], (
            ((1, 1, 1), "more"),
            ((1, 1, 0), "more"), ((7, -3, 0), "least"), ((-3, 2, 0), "more"),
            ((1, 1, 1), "more"), ((1, 0, 0), "least"), ((-1, 0, 0), "least"),
            ((1, 1, 1), "more"), ((0, 0, 1), "least"), ((1, 1, -9), "more"),
            ((1, 1, 1), "more"), ((-1, -1, 9), "least"), ((1, 1, -4), "more"),
        ))

    def test_nobody_somebody_and_all(self):
        cases = {
            "none": (((1, 0), "least"), ((-1, 0), "least")),
            "some": (((1, 0), "more"), ((-9, 1), "more")),
        }
        for how in HOWS:
            for share, told in cases.items():
                for way in ("is", "all"):
                    found = rows(one_share((10, how), share, way))
                    self.assertEqual(found[3:], (((1, 1), "more"),) + told)
        self.assertEqual(rows(one_share((10, "near"), 0))[4:], (((1, 0), "least"), ((-19, 1), "more")))
        self.assertEqual(rows(one_share((10, "even"), 0))[4:], (((1, 0), "least"), ((-19, 1), "least")))
        self.assertEqual(rows(one_share((10, "down"), 0))[4:], (((1, 0), "least"), ((-9, 1), "more")))
        self.assertEqual(rows(one_share((10, "up"), 0))[4:], (((1, 0), "least"), ((-1, 0), "least")))
        self.assertEqual(rows(one_share((10, "near"), 10))[4:], (((1, -19), "least"), ((0, 1), "least")))
        self.assertEqual(rows(one_share((10, "even"), 10))[4:], (((1, -19), "least"), ((0, 1), "least")))
        self.assertEqual(rows(one_share((10, "down"), 10))[4:], (((0, -1), "least"), ((0, 1), "least")))
        self.assertEqual(rows(one_share((10, "up"), 10))[4:], (((1, -9), "more"), ((0, 1), "least")))

    def test_the_numbers_of_stretch(self):
        for how in HOWS:
            for base in (2, 3, 10, 99, 100):
                for share in list(range(base + 1)) + ["none", "some"]:
                    (p, q), is_low, (r, s), is_high = stretch((base, how), share)
                    told = (((q - p, -p), "least" if is_low else "more"), ((r - s, r), "least" if is_high else "more"))
                    for way in ("is", "all"):
                        found = rows(one_share((base, how), share, way))
                        self.assertEqual(found[:4], (
                            ((1, 0), "least"), ((0, 1), "least"), ((1, 1), "more"), ((1, 1), "more"),
                        ))
                        self.assertEqual(found[4:], told)

    def test_at_random(self):
        chance = random.Random(71)
        for _ in range(600):
            page = any_page(chance)
            found = rows(page)
            self.assertEqual(found, rows_of(page), page.text)
            told = sum(share is not None for part in page.parts for share in page[part][1:])
            self.assertEqual(len(found), len(page.ends) + 1 + 3 * told)
            self.assertEqual(rows(page=page), found)

    def test_kinds(self):
        for row in rows(Page(EXAMPLE)):
            self.assertEqual([row.__class__, row[0].__class__, row[1].__class__], [tuple, tuple, str])
            self.assertEqual({weight.__class__ for weight in row[0]}, {int})
        self.assertIs(rows(Page(EXAMPLE)).__class__, tuple)


class RowsAndTablesTest(unittest.TestCase):
    """A table fits just if all rows are so of its counts."""

    def same(self, page, counts):
        so = all(is_so(row, counts) for row in rows(page))
        self.assertIs(Table(page, counts).fits, so, (page.text, counts))
        return so

    def test_all_small_counts(self):
        chance = random.Random(72)
        seen = {True: 0, False: 0}
        for _ in range(150):
            bare = bare_page(chance, 4)
            page = shown_page(chance, bare, random_counts(chance, bare, 4))
            for counts in small_tables(page, 4 if len(page.ends) < 4 else 3):
                seen[self.same(page, counts)] += 1
        self.assertGreater(min(seen.values()), 500, seen)

    def test_one_share(self):
        for how in HOWS:
            for base in (2, 5, 10):
                for share in list(range(base + 1)) + ["none", "some"]:
                    page = one_share((base, how), share)
                    for many in range(2 * base + 1):
                        counts = (many, 2 * base - many)
                        self.same(page, counts)

    def test_great_counts(self):
        chance = random.Random(73)
        for _ in range(300):
            page, counts = counted_page(chance, 10 ** 6)
            self.assertTrue(self.same(page, counts))
            for at in range(len(counts)):
                for more in (-1, 1):
                    changed = counts[:at] + (max(0, counts[at] + more),) + counts[at + 1:]
                    if any(changed):
                        self.same(page, changed)


if __name__ == "__main__":
    unittest.main()
