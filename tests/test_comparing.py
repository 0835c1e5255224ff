"""Point 11: two pages."""

import random
import unittest
from fractions import Fraction

from anyasked.comparing import alike, shows_alike, shows_within, within
from anyasked.errors import NoTable, Unlike
from anyasked.pages import Page
from anyasked.possible import possible
from tests.anyvalues import Refusals, any_values
from tests.countedpages import counted_page, flat_page, in_other_units, moved_page, shown_page
from tests.elimination import can_be
from tests.pagetexts import EXAMPLE
from tests.reckoning import bends, fits, is_counts, is_kind, is_paper, is_so, rows_of, small_tables
from tests.statements import OPPOSITE
from tests.test_papers import plus


def contrary(row):
    return tuple(-weight for weight in row[0]), OPPOSITE[row[1]]


def are_papers(one, other, value):
    """Whether any value is a paper for each row of other, by which all that fits one fits other."""
    found = rows_of(other)
    if not is_kind(value, tuple) or len(value) != len(found):
        return False
    return all(is_paper(rows_of(one) + (contrary(row),), paper) for row, paper in zip(found, value))


def is_apart(one, other, counts, number):
    """Whether two values are counts that fit one, and the number of a row of other that is not so of them."""
    if not is_counts(one, counts) or not fits(one, counts) or not is_kind(number, int):
        return False
    found = rows_of(other)
    return 0 <= number < len(found) and not is_so(found[number], counts)


def is_right_within(one, other, value):
    if not is_kind(value, tuple) or len(value) not in (2, 3):
        return False
    if len(value) == 2:
        return value[0] == "within" and are_papers(one, other, value[1])
    return value[0] == "not" and is_apart(one, other, *value[1:])


def is_right_alike(one, other, value):
    if not is_kind(value, tuple) or len(value) != 3:
        return False
    if value[0] == "alike":
        return are_papers(one, other, value[1]) and are_papers(other, one, value[2])
    if value[0] == "one":
        return is_apart(one, other, *value[1:])
    return value[0] == "other" and is_apart(other, one, *value[1:])


def less_told(chance, page):
    """The page with a share told no more, or as it is if none is told."""
    told = [tell for part in page.parts[1:] for tell, share in (
        (page.told(part, None), page[part][1]), (page.told_far(part, None), page[part][2]),
    ) if share is not None]
    return chance.choice(told or [page])


def near_pages(chance, page):
    """Pages like this one: itself, with a share less, with one moved, and another one that its counts fit."""
    return [page, less_told(chance, page), moved_page(chance, page), less_told(chance, moved_page(chance, page))]


class ComparingCase(unittest.TestCase, Refusals):
    def told(self, one, other):
        """What within tells, which has to be right."""
        found = within(one, other)
        self.assertTrue(is_right_within(one, other, found), (one.text, other.text, found))
        self.assertIs(shows_within(one, other, found), True)
        return found[0]

    def told_alike(self, one, other):
        """What alike tells, which has to be right."""
        found = alike(one, other)
        self.assertTrue(is_right_alike(one, other, found), (one.text, other.text, found))
        self.assertIs(shows_alike(one, other, found), True)
        return found[0]

    def fitting_pair(self, chance, most_ends=6):
        """Two pages that are like each other, each of which some table fits."""
        while True:
            page, counts = counted_page(chance, told=chance.choice((0.3, 0.7)), most_ends=most_ends)
            other = chance.choice(near_pages(chance, page) + [shown_page(chance, in_other_units(chance, page), counts)])
            pair = [page, other]
            chance.shuffle(pair)
            if [possible(one)[0] for one in pair] == ["table", "table"]:
                return pair


class WithinTest(ComparingCase):
    def test_the_documents_example(self):
        page = Page(EXAMPLE)
        more = page.told("old", 38)
        found = [self.told(more, page), self.told(page, more), self.told_alike(page, page.told_far("yes", 40))]
        self.assertEqual(found, ["within", "not", "alike"])

    def test_by_hand(self):
        one = flat_page((10, "near"), [5, None])
        for units, share, words in (
            ((10, "near"), 5, ("within", "within")), ((10, "near"), 4, ("not", "not")),
            ((5, "near"), 2, ("not", "not")), ((3, "down"), 1, ("within", "not")),
            ((10, "near"), None, ("within", "not")), ((2, "near"), 1, ("within", "not")),
            ((10, "even"), 5, ("not", "within")), ((20, "down"), 9, ("not", "within")),
            ((20, "down"), 10, ("not", "within")), ((10, "down"), 5, ("not", "not")), ((2, "down"), 0, ("not", "not")),
            ((100, "near"), 50, ("not", "within")), ((4, "near"), 2, ("within", "not")),
            ((20, "near"), 10, ("not", "within")), ((10, "near"), "none", ("not", "not")),
            ((2, "down"), "some", ("not", "not")), ((2, "up"), 1, ("not", "not")), ((2, "up"), 2, ("not", "not")),
        ):
            with self.subTest((units, share)):
                other = flat_page(units, [share, None])
                self.assertEqual((self.told(one, other), self.told(other, one)), words)
                far = flat_page(units, [None, None], [share, None])
                self.assertEqual((self.told(one, far), self.told(far, one)), words)

    def test_by_other_units_the_same(self):
        cases = [
            ((10, "near"), 5, (20, "down"), None), ((2, "down"), 0, (2, "near"), 0),
            ((3, "down"), "some", (3, "up"), 1), ((50, "down"), "none", (3, "near"), "none"),
            ((2, "even"), 2, (2, "up"), None), ((7, "up"), 0, (9, "near"), "none"), ((7, "down"), 7, (9, "up"), 9),
            ((50, "down"), 49, (100, "near"), 99), ((4, "down"), 2, (2, "down"), 1),
        ]
        seen = set()
        for units, share, others, further in cases:
            one, other = flat_page(units, [share, None]), flat_page(others, [further, None])
            apart = [can_be(rows_of(one) + (contrary(row),)) for row in rows_of(other)]
            apart += [can_be(rows_of(other) + (contrary(row),)) for row in rows_of(one)]
            word = self.told_alike(one, other)
            self.assertEqual(word == "alike", not any(apart), (one.text, other.text))
            seen.add(word)
        self.assertEqual(seen, {"alike", "one", "other"})

    def test_a_share_less_a_share_more_and_a_page_beside_itself(self):
        chance = random.Random(111)
        seen = {}
        for _ in range(120):
            page, _ = counted_page(chance)
            less = less_told(chance, page)
            self.assertEqual((self.told(page, page), self.told(page, less)), ("within", "within"))
            self.assertEqual(self.told_alike(page, page), "alike")
            back = self.told(less, page)
            self.assertEqual(self.told_alike(page, less), {"within": "alike", "not": "other"}[back])
            self.assertEqual(self.told_alike(less, page), {"within": "alike", "not": "one"}[back])
            seen[back] = seen.get(back, 0) + 1
        self.assertGreater(min(seen["within"], seen["not"]), 15, seen)

    def test_at_random(self):
        chance = random.Random(112)
        seen = {}
        for _ in range(250):
            one, other = self.fitting_pair(chance)
            here, back, word = self.told(one, other), self.told(other, one), self.told_alike(one, other)
            self.assertEqual(word == "alike", (here, back) == ("within", "within"))
            if word != "alike":
                self.assertEqual({"one": here, "other": back}[word], "not")
            seen[here, back] = seen.get((here, back), 0) + 1
        self.assertEqual(len(seen), 4)
        self.assertGreater(min(seen.values()), 15, seen)

    def test_at_random_by_elimination(self):
        chance = random.Random(113)
        seen = {}
        for _ in range(120):
            one, other = self.fitting_pair(chance, 3)
            apart = any(can_be(rows_of(one) + (contrary(row),)) for row in rows_of(other))
            told = self.told(one, other)
            self.assertEqual(told, "not" if apart else "within")
            seen[told] = seen.get(told, 0) + 1
        self.assertGreater(min(seen.values()), 10, seen)

    def test_small_tables(self):
        chance = random.Random(114)
        for _ in range(80):
            one, other = self.fitting_pair(chance, 3)
            told = self.told(one, other)
            fitting = [counts for counts in small_tables(one, 6) if fits(one, counts)]
            if told == "within":
                self.assertTrue(all(fits(other, counts) for counts in fitting))
            if self.told_alike(one, other) == "alike":
                self.assertEqual(fitting, [counts for counts in small_tables(other, 6) if fits(other, counts)])

    def test_a_page_that_no_table_fits(self):
        chance = random.Random(115)
        many = 0
        while many < 60:
            page, _ = counted_page(chance)
            never = moved_page(chance, moved_page(chance, page))
            if possible(never)[0] == "table":
                continue
            many += 1
            self.assertEqual(self.told(page, never), "not")
            for value in (None, ("not", possible(page)[1], 0), ("within", ()), within(page, never)):
                self.refuses(NoTable, None, shows_within, never, page, value)
                self.refuses(NoTable, None, shows_alike, page, never, value)
                self.refuses(NoTable, None, shows_alike, never, page, value)
            self.refuses(NoTable, None, within, never, page)
            self.refuses(NoTable, None, within, never, never)
            self.refuses(NoTable, None, alike, never, page)
            self.refuses(NoTable, None, alike, page, never)
            self.refuses(NoTable, None, alike, never, never)

    def test_equal_calls_return_equal_results_by_position_and_by_name(self):
        chance = random.Random(116)
        for _ in range(30):
            one, other = self.fitting_pair(chance)
            texts = one.text, other.text
            found, further = within(one, other), alike(one, other)
            self.assertEqual(within(Page(texts[0]), Page(texts[1])), found)
            self.assertEqual(within(other=other, one=one), found)
            self.assertEqual(alike(other=other, one=one), further)
            self.assertIs(shows_within(value=found, other=other, one=one), True)
            self.assertIs(shows_alike(value=further, other=other, one=one), True)
            self.assertEqual((one.text, other.text), texts)


class UnlikeTest(ComparingCase):
    def wrong(self):
        lines = EXAMPLE.split("\n")
        texts = [
            EXAMPLE.replace("old", "aged"), EXAMPLE.replace("all", "asked"), "\n".join(lines[:-1]),
            EXAMPLE + "\npart other of yes", EXAMPLE.replace("old of yes", "old of no"),
            "\n".join(lines[:2] + [lines[3], lines[2]] + lines[4:]), "\n".join(lines[:5] + [lines[6], lines[5]]),
            EXAMPLE.replace("part open of all", "part open of no"), "in 2 up\nasked x\npart y of x",
        ]
        return any_values() + [Page(text) for text in texts] + [EXAMPLE]

    def test_unlike_ahead_of_no_table(self):
        for one in (Page(EXAMPLE), Page(EXAMPLE).told("open", 27)):
            for other in self.wrong() + [(one,), [one], one.parts, rows_of(one)]:
                self.refuses(Unlike, other, within, one, other)
                self.refuses(Unlike, other, alike, one, other)
                for value in (None, ("within", ()), ("alike", (), ()), ("one", (18, 13, 13, 8), 0)):
                    self.refuses(Unlike, other, shows_within, one, other, value)
                    self.refuses(Unlike, other, shows_alike, one, other, value)

    def test_by_name(self):
        one = Page(EXAMPLE)
        self.refuses(Unlike, 7, within, other=7, one=one)
        self.refuses(Unlike, 7, alike, other=7, one=one)
        self.refuses(Unlike, 7, shows_within, value=None, other=7, one=one)
        self.refuses(Unlike, 7, shows_alike, value=None, other=7, one=one)


class ShowsTest(ComparingCase):
    def same(self, one, other, value):
        """Both tell of the value just what is right."""
        told = is_right_within(one, other, value)
        self.assertIs(shows_within(one, other, value), told, (one.text, other.text, value))
        further = is_right_alike(one, other, value)
        self.assertIs(shows_alike(one, other, value), further, (one.text, other.text, value))
        return told or further

    def test_each_row_that_is_not_so(self):
        chance = random.Random(117)
        seen = {True: 0, False: 0}
        for _ in range(60):
            one, other = self.fitting_pair(chance, 3)
            fitting = [counts for counts in small_tables(one, 5) if fits(one, counts) or fits(other, counts)]
            for counts in chance.sample(fitting, min(3, len(fitting))) + [possible(one)[1], possible(other)[1]]:
                for number in range(-1, len(rows_of(other)) + 1):
                    for word in ("not", "one", "other"):
                        seen[self.same(one, other, (word, counts, number))] += 1
        self.assertGreater(min(seen.values()), 100, seen)

    def test_one_and_other_both(self):
        one, other = flat_page((10, "near"), [5, None]), flat_page((10, "near"), [6, None])
        self.assertEqual(rows_of(one)[3:6], (((1, 1), "more"), ((11, -9), "least"), ((-9, 11), "more")))
        for value, told in (
            (("one", (1, 1), 4), True), (("other", (3, 2), 5), True), (("one", (1, 1), 5), False),
            (("other", (3, 2), 4), False), (("one", (3, 2), 4), False), (("other", (1, 1), 5), False),
            (("not", (1, 1), 4), False), (("one", (1, 1), 0), False), (("one", (1, 1), True), False),
        ):
            self.assertIs(shows_alike(one, other, value), told, value)
            self.same(one, other, value)
        self.assertIs(shows_within(one, other, ("not", (1, 1), 4)), True)
        self.assertIs(shows_within(one, other, ("one", (1, 1), 4)), False)
        # Neither share is right of these counts.
        for word in ("one", "other", "not"):
            for number in range(6):
                self.assertFalse(self.same(one, other, (word, (1, 0), number)))

    def test_other_papers(self):
        chance = random.Random(118)
        many = 0
        while many < 40:
            one, other = self.fitting_pair(chance)
            found = within(one, other)
            if found[0] == "not":
                continue
            many += 1
            for times in (2, Fraction(1, 7), Fraction(10 ** 40, 3)):
                papers = tuple(plus(paper, times) for paper in found[1])
                self.assertTrue(self.same(one, other, ("within", papers)))
                mixed = tuple(chance.choice(pair) for pair in zip(papers, found[1]))
                self.assertTrue(self.same(one, other, ("within", mixed)))
            word, *papers = alike(one, other)
            if word == "alike":
                more = tuple(tuple(plus(paper, 3) for paper in side) for side in papers)
                self.assertTrue(self.same(one, other, ("alike",) + more))
                self.assertTrue(self.same(one, other, ("alike", found[1], more[1])))
                self.same(one, other, ("alike", papers[1], papers[0]))
                self.same(one, other, ("alike", papers[0]))

    def test_papers_out_twice_and_exchanged(self):
        chance = random.Random(119)
        many = {True: 0, False: 0}
        for _ in range(20):
            page, _ = counted_page(chance, most_ends=3)
            less = less_told(chance, page)
            word, papers = within(page, less)
            self.assertEqual(word, "within")
            for at in range(len(papers)):
                self.assertFalse(self.same(page, less, (word, papers[:at] + papers[at + 1:])))
                self.assertFalse(self.same(page, less, (word, papers[:at] + papers[at:at + 1] + papers[at:])))
                for behind in chance.sample(range(len(papers)), 2):
                    changed = list(papers)
                    changed[at], changed[behind] = papers[behind], papers[at]
                    many[self.same(page, less, (word, tuple(changed)))] += 1
            self.assertFalse(self.same(page, less, (word, papers[:-1] + ((),))))
            self.assertFalse(self.same(page, less, (word, ())))
            self.assertFalse(self.same(page, less, ("alike", papers)))
            self.same(page, less, ("alike", papers, papers))
        self.assertGreater(min(many.values()), 10, many)

    def test_bent_ones(self):
        chance = random.Random(120)
        seen = {}
        for _ in range(25):
            one, other = self.fitting_pair(chance, 3)
            for own in (within(one, other), alike(one, other)):
                if len(str(own)) > 500:
                    continue
                for value in bends(own):
                    key = own[0], self.same(one, other, value)
                    seen[key] = seen.get(key, 0) + 1
        self.assertTrue({(word, told) for word in ("not", "one", "other") for told in (True, False)} <= set(seen), seen)
        self.assertTrue({(word, False) for word in ("within", "alike")} <= set(seen), seen)

    def test_values_of_any_kind(self):
        page = Page(EXAMPLE)
        more = page.told("old", 38)
        for one, other in ((more, page), (page, more), (page, page.told_far("yes", 40))):
            here, both = within(one, other), alike(one, other)
            for value in any_values():
                self.assertIs(shows_within(one, other, value), False)
                self.assertIs(shows_alike(one, other, value), False)
                for offered in (
                    (value,), ("within", value), ("not", value, 0), ("not", here[1], value), (value,) + here[1:],
                    here + (value,), ("alike", value, value), ("alike", both[1], value), ("alike", value, both[-1]),
                    (value,) + both[1:], both + (value,), ("one", value, 5), ("other", both[1], value),
                    ("within", (value,) * len(rows_of(other))), ("one", value, value), (value, value, value),
                ):
                    self.assertFalse(self.same(one, other, offered), offered)


del ComparingCase

if __name__ == "__main__":
    unittest.main()
