"""Point 6: tables added and multiplied; and equal ones. Point 2: signs that are not told."""

import random
import unittest

from anyasked.errors import BadTimes, OtherPage
from anyasked.pages import Page
from anyasked.tables import Table
from tests.anyvalues import Refusals, any_values, is_plain_integer
from tests.countedpages import counted_page, random_counts
from tests.pagetexts import EXAMPLE
from tests.reckoning import is_kind

SIGNS = [
    lambda one, other: one - other, lambda one, other: one / other, lambda one, other: one // other,
    lambda one, other: one % other, lambda one, other: one ** other, lambda one, other: one & other,
    lambda one, other: one | other, lambda one, other: one ^ other, lambda one, other: one << other,
    lambda one, other: one >> other, lambda one, other: one @ other, divmod,
]
ORDERS = [
    lambda one, other: one < other, lambda one, other: one <= other, lambda one, other: one > other,
    lambda one, other: one >= other,
]


def add(one, other):
    return one + other


def multiply(one, other):
    return one * other


def add_in_place(one, other):
    one += other
    return one


def multiply_in_place(one, other):
    one *= other
    return one


class SignsCase(unittest.TestCase, Refusals):
    def setUp(self):
        self.page = Page(EXAMPLE)
        self.table = Table(self.page, (7, 5, 5, 3))

    def tearDown(self):
        # Whatever was done with it, the table itself stays as it was.
        self.assertEqual((self.table.counts, self.table.total, self.table["yes"]), ((7, 5, 5, 3), 20, 8))
        self.assertIs(self.table.page, self.page)
        self.assertEqual(self.page.text, EXAMPLE)


class AddingTest(SignsCase):
    def test_sums(self):
        for plus in (add, add_in_place):
            found = plus(self.table, Table(self.page, (0, 1, 0, 4)))
            self.assertIs(found.__class__, Table)
            self.assertEqual((found.counts, found.page, found.total, found["yes"]), ((7, 6, 5, 7), self.page, 25, 12))
            self.assertEqual(plus(self.table, self.table).counts, (14, 10, 10, 6))

    def test_an_equal_page(self):
        other = Table(Page("".join(list(EXAMPLE))), (1, 0, 0, 0))
        self.assertEqual((self.table + other).counts, (8, 5, 5, 3))
        self.assertEqual((other + self.table).counts, (8, 5, 5, 3))
        self.assertEqual(self.table + other, other + self.table)

    def test_another_page(self):
        texts = [
            EXAMPLE.replace("40", "41"), EXAMPLE.replace("near", "even"), EXAMPLE.replace("100", "99"),
            EXAMPLE.replace("old", "aged"), EXAMPLE + " is 38",
        ]
        for text in texts:
            other = Table(Page(text), (7, 5, 5, 3))
            for plus in (add, add_in_place):
                self.refuses(OtherPage, other, plus, self.table, other)
                self.refuses(OtherPage, self.table, plus, other, self.table)
        small = Table(Page("in 2 up\nasked x\npart y of x"), (1,))
        self.refuses(OtherPage, small, add, self.table, small)
        self.refuses(OtherPage, self.table, add, small, self.table)

    def test_anything_else(self):
        for value in any_values() + [self.page, (7, 5, 5, 3), [self.table]]:
            if is_kind(value, Table):
                continue
            self.assertRaises(TypeError, add, self.table, value)
            self.assertRaises(TypeError, add, value, self.table)
            self.assertRaises(TypeError, add_in_place, self.table, value)
            self.assertRaises(TypeError, add_in_place, value, self.table)
        self.assertRaises(TypeError, sum, [self.table, self.table])

    def test_at_random(self):
        chance = random.Random(63)
        for _ in range(100):
            page, one = counted_page(chance)
            other = random_counts(chance, page, 99)
            found = Table(page, one) + Table(page, other)
            self.assertEqual(found, Table(page, tuple(here + there for here, there in zip(one, other))))

    def test_the_one_in_place_is_another_object(self):
        found = self.table
        found += self.table
        self.assertEqual((found.counts, self.table.counts), ((14, 10, 10, 6), (7, 5, 5, 3)))
        found *= 2
        self.assertEqual((found.counts, self.table.counts), ((28, 20, 20, 12), (7, 5, 5, 3)))


class MultiplyingTest(SignsCase):
    def test_multiples(self):
        for many in (1, 2, 3, 10, 9998, 9999):
            for found in (self.table * many, many * self.table, multiply_in_place(self.table, many)):
                self.assertIs(found.__class__, Table)
                self.assertEqual(found.counts, (7 * many, 5 * many, 5 * many, 3 * many))
                self.assertEqual((found.page, found.total), (self.page, 20 * many))

    def test_multiples_of_multiples(self):
        found = self.table
        for _ in range(20):
            found = 9999 * found
        self.assertEqual(found.counts, tuple(many * 9999 ** 20 for many in (7, 5, 5, 3)))

    def test_bad_times(self):
        wrong = [0, -1, -3, 10000, 10001, 999999999, True, False, None, "2", "", (2,), [2], {}, [], (), self.page]
        for value in wrong + any_values():
            if is_plain_integer(value) and 1 <= value <= 9999 or is_kind(value, Table):
                continue
            self.refuses(BadTimes, value, multiply, self.table, value)
            self.refuses(BadTimes, value, multiply, value, self.table)
            self.refuses(BadTimes, value, multiply_in_place, self.table, value)
            self.refuses(BadTimes, value, multiply_in_place, value, self.table)

    def test_two_tables(self):
        others = [Table(self.page, (1, 1, 1, 1)), Table(Page("in 2 up\nasked x\npart y of x"), (1,)), self.table]
        for other in others:
            for times in (multiply, multiply_in_place):
                self.refuses(BadTimes, other, times, self.table, other)
                self.refuses(BadTimes, self.table, times, other, self.table)


class EqualTest(SignsCase):
    def test_equal(self):
        self.assertIs(self.table == Table(self.page, (7, 5, 5, 3)), True)
        self.assertIs(self.table == Table(Page("".join(list(EXAMPLE))), tuple([7, 5, 5, 3])), True)
        self.assertIs(self.table != Table(self.page, (7, 5, 5, 3)), False)
        self.assertIs(self.table + self.table == 2 * self.table, True)

    def test_other_tables(self):
        others = [
            Table(self.page, (7, 5, 5, 4)), Table(self.page, (5, 7, 5, 3)), Table(self.page, (14, 10, 10, 6)),
            Table(Page(EXAMPLE.replace("40", "41")), (7, 5, 5, 3)), Table(Page(EXAMPLE + " is 38"), (7, 5, 5, 3)),
        ]
        for other in others:
            self.assertIs(self.table == other, False)
            self.assertIs(other == self.table, False)
            self.assertIs(self.table != other, True)

    def test_values_of_any_kind(self):
        for value in any_values() + [(7, 5, 5, 3), (self.page, (7, 5, 5, 3)), self.page, 20, [self.table]]:
            self.assertIs(self.table == value, False)
            self.assertIs(value == self.table, False)
            self.assertIs(self.table != value, True)
            self.assertIs(value != self.table, True)


class OtherSignsTest(SignsCase):
    def test_signs_of_reckoning_and_of_order(self):
        others = [self.table, Table(self.page, (1, 1, 1, 1)), self.page, 0, 1, 2, -1, None, True, (), [], {}, (7, 5)]
        for call in SIGNS + ORDERS:
            for other in others:
                self.assertRaises(TypeError, call, self.table, other)
                self.assertRaises(TypeError, call, other, self.table)
            for other in ("", "yes"):
                self.assertRaises(TypeError, call, self.table, other)

    def test_signs_of_one(self):
        for call in (lambda one: -one, lambda one: +one, lambda one: ~one, abs):
            self.assertRaises(TypeError, call, self.table)

    def test_in_place(self):
        def subtract(one, other):
            one -= other

        def join(one, other):
            one |= other

        for other in (self.table, 1, None, [], "x"):
            self.assertRaises(TypeError, subtract, self.table, other)
            self.assertRaises(TypeError, join, self.table, other)

    def test_len_in_and_index(self):
        self.assertRaises(TypeError, len, self.table)
        for value in any_values() + [7, "yes", "all"]:
            with self.assertRaises(TypeError):
                value in self.table
            with self.assertRaises(TypeError):
                self.table[value] = 3
        self.assertRaises(TypeError, range, self.table)
        with self.assertRaises(TypeError):
            [1, 2, 3][self.table]


del SignsCase

if __name__ == "__main__":
    unittest.main()
