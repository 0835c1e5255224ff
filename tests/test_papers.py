"""Point 7: papers."""

import random
import unittest
from fractions import Fraction

from anyasked.errors import BadRows
from anyasked.pages import Page
from anyasked.possible import possible
from anyasked.rows import is_paper, rows
from tests.anyvalues import Refusals, any_values
from tests.countedpages import any_page
from tests.pagetexts import EXAMPLE
from tests.reckoning import bends, is_paper as is_right_paper, rows_of

# Of 40 less than 19 are in a, less than 19 in b; but all are in one of them.
TIGHT = "in 20 near\nasked all\npart a of all is 9\npart b of all is 9"


def plus(paper, times):
    """A paper with all its weights so many times."""
    scaled = [(number, Fraction(*weight) * times) for number, weight in paper]
    return tuple((number, (weight.numerator, weight.denominator)) for number, weight in scaled)


class PaperTest(unittest.TestCase, Refusals):
    def setUp(self):
        self.page = Page(TIGHT)
        self.assertEqual(rows(self.page), (
            ((1, 0), "least"), ((0, 1), "least"), ((1, 1), "more"),
            ((1, 1), "more"), ((23, -17), "least"), ((-21, 19), "more"),
            ((1, 1), "more"), ((-17, 23), "least"), ((19, -21), "more"),
        ))

    def test_the_documents_example(self):
        self.assertIs(is_paper(Page(EXAMPLE), (), ((4, (1, 1)),)), False)

    def test_right_ones(self):
        right = [
            ((5, (1, 1)), (8, (1, 1))), ((5, (1, 2)), (8, (1, 2))), ((5, (7, 3)), (8, (7, 3))),
            ((2, (1, 1)), (5, (1, 1)), (8, (1, 1))), ((5, (11, 10)), (8, (1, 1))),
            ((5, (1, 1)), (6, (2, 1)), (8, (1, 1))), ((0, (1, 5)), (1, (1, 7)), (5, (1, 1)), (8, (1, 1))),
            ((2, (1, 1)), (3, (1, 1)), (5, (1, 1)), (8, (1, 1))),
        ]
        for value in right:
            self.assertIs(is_paper(self.page, (), value), True, value)

    def test_wrong_ones(self):
        page = self.page
        one, two = (5, (1, 1)), (8, (1, 1))
        wrong = [
            (), (one,), (two,), (two, one), (one, one, two), (one, two, two), (one, one), [one, two], (list(one), two),
            (one, [8, (1, 1)]), (one, (8, [1, 1])), (one, (8, (1, 1), 0)), (one, (8,)), (one, 8), (one, (8, 1)),
            (one, (8, (2, 2))), (one, (8, (1, -1))), (one, (8, (-1, 1))), (one, (8, (-1, -1))), (one, (8, (0, 1))),
            (one, (8, (1, 0))), (one, (8, (1,))), (one, (8, (1, 1, 1))), (one, (8, (True, 1))), (one, (8, (1, True))),
            ((5, (True, True)), two), (one, (8, ("1", 1))), (one, (8, None)), (one, (8, (None, 1))),
            (one, (9, (1, 1))), (one, two, (9, (1, 1))), ((-4, (1, 1)), (-1, (1, 1))), ((-1, (1, 1)), one, two),
            (("5", (1, 1)), two), ((None, (1, 1)), two), (one, two, None), (one, two, ()), (one, two, 0),
            ((2, (3, 1)), one, two), ((0, (3, 1)), one, two), (one, (8, (10, 8))), (one, (8, (2, 1))),
            ((False, (1, 9)), one, two), ((0, (1, 9)), (True, (1, 9)), one, two), {5: (1, 1), 8: (1, 1)}, "58", 5, None,
        ]
        self.assertIs(is_paper(page, (), ((0, (1, 9)), (1, (1, 9)), one, two)), True)
        for value in wrong:
            self.assertIs(is_paper(page, (), value), False, value)
            self.assertIs(is_right_paper(rows_of(page), value), False, value)

    def test_one_row_at_least_with_more(self):
        page = Page("in 20 even\nasked all\npart a of all is 10\npart b of all is 10")
        rows_there = rows(page)
        self.assertEqual([rows_there[5], rows_there[8]], [((-19, 21), "least"), ((21, -19), "least")])
        least = (((-1, -1), "least"),)
        more = (((-1, -1), "more"),)
        self.assertIs(is_paper(page, least, ((0, (1, 1)), (1, (1, 1)), (9, (1, 1)))), False)
        self.assertIs(is_paper(page, least, ((2, (1, 1)), (9, (1, 1)))), True)
        self.assertIs(is_paper(page, more, ((0, (1, 1)), (1, (1, 1)), (9, (1, 1)))), True)
        self.assertIs(is_paper(page, more, ((9, (1, 1)),)), True)
        self.assertIs(is_paper(page, least, ((9, (1, 1)),)), False)
        self.assertIs(is_paper(page, (((0, 0), "more"),), ((9, (1, 1)),)), True)
        self.assertIs(is_paper(page, (((0, 0), "least"),), ((9, (1, 1)),)), False)

    def test_each_end_at_most_0(self):
        page = Page("in 20 near\nasked all\npart a of all\npart b of all\npart c of all")
        for weights in ((0, 0, 0), (-1, 0, -5), (1, 0, 0), (0, 1, 0), (0, 0, 1), (-9, -9, 1), (1, -9, -9)):
            told = max(weights) <= 0
            self.assertIs(is_paper(page, ((weights, "more"),), ((4, (3, 7)),)), told, weights)

    def test_fractions_are_added_exactly(self):
        page = Page("in 20 near\nasked all\npart a of all\npart b of all")
        more = (((3, 0), "more"), ((-7, 0), "least"), ((5, -1), "more"))
        for value in (
            ((3, (1, 3)), (4, (1, 7))), ((3, (1, 3)), (4, (10, 71))), ((3, (7, 3)), (4, (1, 1)), (5, (1, 999999999))),
            ((3, (999999999, 1)), (4, (428571428, 1))), ((3, (999999999, 1)), (4, (2999999997, 7))),
            ((3, (1, 999999999)), (4, (3, 6999999993))), ((4, (5, 7)), (5, (1, 1))),
            ((4, (714285714, 999999999)), (5, (1, 1))),
        ):
            self.assertIs(is_paper(page, more, value), is_right_paper(rows_of(page) + more, value), value)
        self.assertIs(is_paper(page, more, ((3, (1, 3)), (4, (1, 7)))), True)
        self.assertIs(is_paper(page, more, ((3, (1, 3)), (4, (10, 71)))), False)
        self.assertIs(is_paper(page, more, ((4, (5, 7)), (5, (1, 1)))), True)

    def test_further_rows_behind(self):
        page = Page(EXAMPLE)
        more = (((0, 0, -5, 0), "more"), ((0, 0, 0, -5), "least"))
        self.assertIs(is_paper(page, more, ((2, (1, 1)), (14, (1, 5)))), True)
        self.assertIs(is_paper(page, more, ((14, (1, 5)),)), True)
        self.assertIs(is_paper(page, more, ((11, (1, 1)), (14, (1, 5)), (15, (1, 5)))), True)
        self.assertIs(is_paper(page, more, ((11, (1, 1)), (14, (1, 5)), (15, (1, 6)))), False)
        self.assertIs(is_paper(page, more, ((14, (1, 5)), (16, (1, 5)))), False)
        self.assertIs(is_paper(page, (), ((14, (1, 5)),)), False)

    def test_values_of_any_kind(self):
        page = Page(TIGHT)
        for value in any_values():
            self.assertIs(is_paper(page, (), value), False)
            for inner in ((value,), (value, (8, (1, 1))), ((5, value), (8, (1, 1))), ((value, (1, 1)), (8, (1, 1)))):
                self.assertIs(is_paper(page, (), inner), is_right_paper(rows_of(page), inner))
            for inner in ((5, (value, 1)), (5, (1, value))):
                both = (inner, (8, (1, 1)))
                self.assertIs(is_paper(page, (), both), is_right_paper(rows_of(page), both))

    def test_papers_that_are_told_and_those_near_them(self):
        chance = random.Random(74)
        seen = {True: 0, False: 0}
        for _ in range(150):
            page = any_page(chance)
            word, paper = possible(page)
            if word == "table":
                continue
            found = rows_of(page)
            self.assertIs(is_paper(page, (), paper), True)
            for times in (2, 3, Fraction(1, 7), Fraction(10 ** 30, 3)):
                self.assertIs(is_paper(page, (), plus(paper, times)), True)
            for value in bends(paper):
                told = is_right_paper(found, value)
                self.assertIs(is_paper(page, (), value), told, (page.text, value))
                seen[told] += 1
        self.assertGreater(min(seen.values()), 50, seen)

    def test_weights_at_random(self):
        chance = random.Random(75)
        seen = {True: 0, False: 0}
        for _ in range(3000):
            page = any_page(chance)
            ends = len(page.ends)
            more = tuple(
                (tuple(chance.randint(-6, 2) for _ in range(ends)), chance.choice(("least", "more")))
                for _ in range(chance.randint(0, 3))
            )
            found = rows_of(page) + more
            value = []
            for number in sorted(chance.sample(range(len(found)), chance.randint(1, min(4, len(found))))):
                weight = Fraction(chance.randint(1, 6), chance.randint(1, 6))
                value.append((number, (weight.numerator, weight.denominator)))
            told = is_right_paper(found, tuple(value))
            self.assertIs(is_paper(page, more, tuple(value)), told)
            seen[told] += 1
        self.assertGreater(min(seen.values()), 50, seen)

    def test_by_name(self):
        page = Page(TIGHT)
        self.assertIs(is_paper(page=page, more=(), value=((5, (1, 1)), (8, (1, 1)))), True)
        self.assertIs(is_paper(value=((5, (1, 1)), (8, (1, 1))), more=(), page=page), True)
        self.refuses(BadRows, None, is_paper, page, value=(), more=None)


class BadRowsTest(unittest.TestCase, Refusals):
    def test_no_rows(self):
        page = Page(TIGHT)
        row = ((1, -1), "least")
        wrong = [
            [], [row], row, (row, None), (list(row),), (row, ([1, -1], "least")), (((1, -1), "just"),),
            (((1, -1), "LEAST"),), (((1, -1), "least "),), (((1, -1), ""),), (((1, -1), None),), (((1, -1), 0),),
            (((1,), "least"),), (((1, 2, 3), "least"),), (((), "least"),), (((1, True), "least"),),
            (((False, 1), "more"),), (((1, "1"), "more"),), (((1, None), "more"),), (((1, (1,)), "more"),),
            ((row[0],),), ((row + (0,)),), ((row[0], row[1], row[1]),), (("least", (1, -1)),), (row, row, ()),
            ((row,),), {"least": (1, -1)}, "least", 0, None, True, page, (((1, -1), ("least",)),),
            (((1, -1), ["least"]),),
        ]
        for more in wrong + [value for value in any_values() if value != ()]:
            for value in ((), ((2, (1, 1)),), None, [], page):
                self.refuses(BadRows, more, is_paper, page, more, value)

    def test_values_of_any_kind_within_rows(self):
        page = Page(TIGHT)
        for value in any_values():
            if value.__class__ is not int:
                for more in ((((1, value), "more"),), (((value, 0), "least"),)):
                    self.refuses(BadRows, more, is_paper, page, more, ())
            for more in ((((1, 1), value),), (value,), (((1, 1), "more"), value), ((value, value),)):
                self.refuses(BadRows, more, is_paper, page, more, ())
            # These are weights themselves.
            if value != (1, 2):
                more = ((value, "more"),)
                self.refuses(BadRows, more, is_paper, page, more, ())

    def test_rows(self):
        page = Page(TIGHT)
        for more in (
            (), (((0, 0), "least"),), (((1, -1), "least"), ((1, -1), "least")), (((-999999999, 999999999), "more"),),
            rows(page), rows(page) + rows(page.told("b", None)),
        ):
            self.assertIs(is_paper(page, more, ()), False)
            self.assertIs(is_paper(page, more, ((2, (1, 1)),)), False)


if __name__ == "__main__":
    unittest.main()
