"""Point 8: what can be."""

import random
import unittest
from fractions import Fraction

from anyasked.errors import Unlike
from anyasked.pages import Page
from anyasked.possible import both, possible, shows_both, shows_possible
from tests.anyvalues import Refusals, any_values
from tests.countedpages import (
    any_page, bare_page, counted_page, flat_page, in_other_units, moved_page, random_counts, shown_page,
)
from tests.pagetexts import EXAMPLE, HOWS
from tests.reckoning import bends, fits, is_counts, is_kind, is_paper, reach, rows_of, small_tables
from tests.test_papers import plus


def is_right(pages, value):
    """Whether any value tells rightly whether counts can fit all these pages, by the test's own reckoning."""
    if not is_kind(value, tuple) or len(value) != 2:
        return False
    if value[0] == "table":
        return bool(is_counts(pages[0], value[1])) and all(fits(page, value[1]) for page in pages)
    found = sum([rows_of(page) for page in pages], ())
    return value[0] == "never" and is_paper(found, value[1])


def can_be_flat(units, nears, fars):
    """Whether shares of parts right beneath the first one can be, by adding the ends of their stretches."""
    low, high, is_low, is_high = Fraction(0), Fraction(0), True, True
    for told in zip(nears, fars):
        lows, highs = [(Fraction(0), True)], [(Fraction(1), True)]
        for share in told:
            if share is not None:
                found = reach(units, share)
                lows.append(found[:2])
                highs.append(found[2:])
        # Of two equal ends the one that is not shown itself is the narrower.
        least, is_least = max(lows, key=lambda end: (end[0], not end[1]))
        most, is_most = min(highs, key=lambda end: (end[0], end[1]))
        if least > most or (least == most and not (is_least and is_most)):
            return False
        low, is_low = low + least, is_low and is_least
        high, is_high = high + most, is_high and is_most
    return (low < 1 or low == 1 and is_low) and (high > 1 or high == 1 and is_high)


class PossibleTest(unittest.TestCase, Refusals):
    def told(self, page):
        """What possible tells, which has to be right."""
        found = possible(page)
        self.assertTrue(is_right((page,), found), (page.text, found))
        self.assertIs(shows_possible(page, found), True)
        return found[0]

    def test_the_documents_example(self):
        page = Page(EXAMPLE)
        self.assertEqual((self.told(page), self.told(page.told("open", 27))), ("table", "never"))

    def test_by_hand(self):
        cases = {
            (100, "near"): {(50, 50): "table", (50, 51): "table", (50, 49): "never", (51, 51): "never"},
            (100, "even"): {(50, 50): "table", (50, 51): "never", (50, 49): "never"},
            (100, "down"): {(50, 50): "table", (50, 49): "table", (50, 51): "never", (50, 48): "never"},
            (100, "up"): {(50, 50): "table", (50, 51): "table", (50, 52): "never", (50, 49): "never"},
            (3, "near"): {(1, 1): "never", (2, 1): "table", (2, 2): "table", (0, 1): "never", (1, 3): "table"},
            (3, "even"): {(1, 1): "never", (2, 1): "table", (2, 2): "table", (0, 2): "table", (1, 3): "never"},
            (2, "even"): {(0, 1): "never", (0, 2): "table", (1, 1): "table", (1, 2): "never"},
        }
        for units, told in cases.items():
            for shares, word in told.items():
                with self.subTest((units, shares)):
                    self.assertEqual(self.told(flat_page(units, shares)), word)

    def test_one_part_is_all(self):
        for how in HOWS:
            for share, word in ((10, "table"), (9, "never"), (0, "never"), ("none", "never"), ("some", "never")):
                if (how, share) == ("up", 9):
                    continue
                self.assertEqual(self.told(flat_page((10, how), [share])), word)
                self.assertEqual(self.told(flat_page((10, how), [None], [share])), word)

    def test_two_to_six_ends_whose_shares_sum_to_about_all(self):
        chance = random.Random(81)
        seen = {}
        for _ in range(1500):
            units = (chance.choice((100, 100, 2, 3, 10, 99)), chance.choice(HOWS))
            ends = chance.randint(2, 6)
            total = units[0] + chance.choice((-4, -3, -2, -1, 0, 1, 2, 3, 4))
            cuts = sorted(chance.randint(0, max(0, total)) for _ in range(ends - 1))
            shares = [there - here for here, there in zip([0] + cuts, cuts + [max(0, total)])]
            nears = [share if share <= units[0] else None for share in shares]
            fars = [None] * ends
            for at in range(ends):
                if chance.random() < 0.1:
                    nears[at] = chance.choice((None, "none", "some"))
                if chance.random() < 0.2:
                    fars[at] = chance.choice((nears[at], "some", "none", chance.randint(0, units[0])))
            page = flat_page(units, nears, fars)
            told = self.told(page)
            self.assertEqual(told, "table" if can_be_flat(units, nears, fars) else "never", page.text)
            seen[ends, told] = seen.get((ends, told), 0) + 1
        self.assertEqual(len(seen), 10)
        self.assertGreater(min(seen.values()), 20, seen)

    def test_just_to_the_ends_of_the_stretches(self):
        for how in HOWS:
            for base in (2, 3, 4, 5, 10, 50, 99, 100):
                for ends in range(2, 7):
                    for total in range(base - ends, base + ends + 1):
                        many, rest = divmod(total, ends)
                        shares = [many + (at < rest) for at in range(ends)]
                        if not 0 <= min(shares) <= max(shares) <= base:
                            continue
                        told = self.told(flat_page((base, how), shares))
                        is_possible = can_be_flat((base, how), shares, [None] * ends)
                        self.assertEqual(told, "table" if is_possible else "never", (base, how, shares))

    def test_none_some_and_what_is_not_told(self):
        units = (10, "near")
        cases = [
            (["some", "some"], "never"), (["some", 10], "table"), (["some", 9], "table"), (["some", 8], "never"),
            (["none", "none", None], "table"), (["none", "none", 9], "never"), (["none", None, "some"], "table"),
            ([9, "some", "some"], "table"), ([8, "some", "some"], "table"), ([7, "some", "some"], "never"),
            ([10, "none", "none", "some"], "table"), ([0, 0, 0, 0, None], "table"), ([None, 5, 5, "some"], "table"),
            ([None, 6, 5, "some"], "never"), (["some"] * 6, "never"), ([None] * 6, "table"), (["none"] * 6, "never"),
            ([5, 5, "none", "none", "none", "some"], "table"), ([5, 6, "none", "none", "none", "some"], "never"),
        ]
        for shares, told in cases:
            with self.subTest(shares):
                self.assertEqual(self.told(flat_page(units, shares)), told)
                self.assertEqual(self.told(flat_page(units, [None] * len(shares), shares)), told)

    def test_parts_beneath_parts(self):
        text = (
            "in 100 near\nasked all\npart a of all is 50\npart b of all is 50\npart c of a is {}\npart d of a is {}\n"
            "part e of d is {} all {}\npart f of d"
        )
        cases = [
            (50, 50, 50, 13, "table"), (50, 50, 50, 12, "table"), (50, 50, 50, 14, "never"), (50, 50, 50, 11, "never"),
            (50, 51, 50, 13, "table"), (50, 52, 50, 13, "never"), (33, 67, 10, 3, "table"), (33, 67, 10, 4, "table"),
            (33, 67, 10, 5, "never"), ("none", 100, 10, 5, "table"), ("none", "some", 10, 5, "never"),
            (100, "none", 0, 0, "never"), (100, 0, "none", 0, "table"), (100, "some", 100, "some", "table"),
            (100, "some", 100, "none", "never"), (0, 100, 100, 50, "table"), (0, 100, 100, 51, "never"),
        ]
        for *shares, told in cases:
            with self.subTest(shares):
                self.assertEqual(self.told(Page(text.format(*shares))), told)

    def test_at_random(self):
        chance = random.Random(82)
        seen = {}
        for _ in range(600):
            page = any_page(chance)
            told = self.told(page)
            seen[len(page.ends), told] = seen.get((len(page.ends), told), 0) + 1
        self.assertEqual(len(seen), 12)
        self.assertGreater(min(seen.values()), 3, seen)

    def test_what_counts_fit_can_be(self):
        chance = random.Random(83)
        for most in (3, 20, 1000, 10 ** 9 - 1):
            for _ in range(60):
                page, counts = counted_page(chance, most, 0.9)
                self.assertEqual(self.told(page), "table", (page.text, counts))

    def test_what_cannot_be_no_small_table_fits(self):
        chance = random.Random(84)
        for _ in range(150):
            bare = bare_page(chance, 3)
            page = moved_page(chance, shown_page(chance, bare, random_counts(chance, bare, 8), 0.9))
            fitting = [counts for counts in small_tables(page, 8) if fits(page, counts)]
            if self.told(page) == "never":
                self.assertEqual(fitting, [])
            for counts in fitting[:5]:
                self.assertIs(shows_possible(page, ("table", counts)), True)

    def test_equal_calls_return_equal_results(self):
        chance = random.Random(85)
        for _ in range(30):
            page = any_page(chance)
            text = page.text
            first = possible(page)
            self.assertEqual(possible(Page(text)), first)
            self.assertEqual(both(page, page)[0], first[0])
            self.assertEqual(possible(page=page), first)
            self.assertEqual(page.text, text)


class ShowsPossibleTest(unittest.TestCase):
    def same(self, page, value):
        told = is_right((page,), value)
        self.assertIs(shows_possible(page, value), told, (page.text, value))
        return told

    def test_other_counts(self):
        page = Page(EXAMPLE)
        counts = possible(page)[1]
        long = 10 ** 60 + 7
        for many in (2, 3, 9999, long):
            self.assertIs(shows_possible(page, ("table", tuple(many * count for count in counts))), True)
        self.assertTrue(self.same(page, ("table", (18, 13, 13, 8))))
        self.assertFalse(self.same(page, ("table", (18, 13, 12, 8))))
        self.assertFalse(self.same(page, ("table", (0, 0, 0, 0))))

    def test_other_papers(self):
        page = Page(EXAMPLE).told("open", 27)
        self.assertEqual(possible(page)[0], "never")
        paper = possible(page)[1]
        for times in (2, Fraction(1, 3), Fraction(10 ** 50, 7)):
            self.assertTrue(self.same(page, ("never", plus(paper, times))))
        # Less than 81 of 200 are yes, than 71 no, than 55 open.
        rows = rows_of(page)
        self.assertEqual([rows[6], rows[9], rows[12]], [
            ((-79, -79, 121, 121), "least"), ((131, -69, -69, -69), "least"), ((-53, 147, -53, -53), "least"),
        ])
        self.assertTrue(self.same(page, ("never", ((4, (1, 1)), (6, (1, 1)), (9, (1, 1)), (12, (1, 1))))))
        self.assertTrue(self.same(page, ("never", ((4, (1, 9)), (6, (1, 1)), (9, (1, 1)), (12, (1, 1))))))
        self.assertFalse(self.same(page, ("never", ((4, (2, 1)), (6, (1, 1)), (9, (1, 1)), (12, (1, 1))))))
        self.assertFalse(self.same(page, ("never", ((6, (1, 1)), (9, (1, 1)), (12, (1, 1))))))

    def test_words(self):
        page = Page(EXAMPLE)
        right = possible(page)
        never = possible(page.told("open", 27))
        for value in (
            ("never", right[1]), ("table", never[1]), never, right + (None,), right[1], (right,), list(right), "table",
            ("Table", right[1]), ("table",), ("table", list(right[1])), (right[1], "table"), ("always", right[1]),
            (("table",), right[1]), ("table", right), ("table", None), ("never", None), ("never", ()), ("table", ()),
        ):
            self.assertIs(shows_possible(page, value), False, value)
        self.assertIs(shows_possible(page=page, value=right), True)
        self.assertIs(shows_possible(value=never, page=page.told("open", 27)), True)

    def test_values_of_any_kind(self):
        for page in (Page(EXAMPLE), Page(EXAMPLE).told("open", 27), Page("in 2 up\nasked x\npart y of x")):
            for value in any_values():
                self.assertIs(shows_possible(page, value), False)
                for word in ("table", "never", value):
                    self.same(page, (word, value))
                    self.same(page, (value, possible(page)[1]))
                    self.same(page, (word, (value,)))

    def test_bent_ones(self):
        chance = random.Random(86)
        seen = {True: 0, False: 0}
        for _ in range(150):
            page = any_page(chance)
            for value in bends(possible(page)):
                seen[self.same(page, value)] += 1
        self.assertGreater(min(seen.values()), 50, seen)


class BothTest(unittest.TestCase, Refusals):
    def told(self, one, other):
        """What both tells, which has to be right."""
        found = both(one, other)
        self.assertTrue(is_right((one, other), found), (one.text, other.text, found))
        self.assertIs(shows_both(one, other, found), True)
        return found[0]

    def test_the_documents_example(self):
        page = Page(EXAMPLE)
        self.assertEqual(self.told(page, page.told("open", "some")), "never")

    def test_by_hand(self):
        one = flat_page((100, "near"), [50, None])
        for units, share, word in (
            ((10, "near"), 5, "table"), ((10, "near"), 4, "never"), ((10, "down"), 4, "table"), ((2, "up"), 1, "table"),
            ((2, "up"), 2, "table"), ((3, "down"), 1, "table"), ((3, "near"), 1, "table"), ((3, "near"), 2, "table"),
            ((99, "near"), 49, "table"), ((99, "near"), 50, "table"), ((99, "near"), 51, "never"),
            ((100, "down"), 49, "table"), ((100, "down"), 48, "never"), ((100, "up"), 51, "table"),
            ((100, "up"), 52, "never"), ((100, "even"), 51, "never"), ((100, "even"), 50, "table"),
        ):
            with self.subTest((units, share)):
                other = flat_page(units, [share, None])
                self.assertEqual(self.told(one, other), word)
                self.assertEqual(self.told(other, one), word)
                self.assertEqual(self.told(one, flat_page(units, [None, None], [share, None])), word)

    def test_each_can_be_but_not_both(self):
        chance = random.Random(87)
        seen = {"table": 0, "never": 0}
        for _ in range(400):
            bare = bare_page(chance)
            counts = random_counts(chance, bare, 40)
            further = chance.choice((counts, random_counts(chance, bare, 40)))
            one = shown_page(chance, bare, counts)
            other = shown_page(chance, in_other_units(chance, bare), further)
            seen[self.told(one, other)] += 1
            if counts == further:
                self.assertEqual(self.told(one, other), "table")
            self.assertEqual(self.told(other, one), self.told(one, other))
            self.assertEqual(self.told(one, one), "table")
        self.assertGreater(min(seen.values()), 50, seen)

    def test_what_neither_can_be(self):
        chance = random.Random(88)
        for _ in range(100):
            one = any_page(chance)
            other = moved_page(chance, one)
            told = self.told(one, other)
            if "never" in (possible(one)[0], possible(other)[0]):
                self.assertEqual(told, "never")

    def test_papers_count_the_rows_of_one_and_then_those_of_other(self):
        one = flat_page((100, "near"), [50, None])
        other = flat_page((10, "near"), [None, 8])
        self.assertEqual(len(rows_of(one)), 6)
        self.assertEqual([rows_of(one)[4], rows_of(other)[4]], [((101, -99), "least"), ((-3, 1), "least")])
        right = ("never", ((2, (1, 1)), (4, (1, 1)), (10, (60, 1))))
        self.assertIs(shows_both(one, other, right), True)
        self.assertIs(shows_both(other, one, right), False)
        self.assertIs(shows_both(other, one, ("never", ((2, (1, 1)), (4, (60, 1)), (10, (1, 1))))), True)
        self.assertIs(shows_possible(one, right), False)

    def test_shows_both(self):
        chance = random.Random(89)
        seen = {True: 0, False: 0}
        for _ in range(120):
            bare = bare_page(chance, 4)
            one = shown_page(chance, bare, random_counts(chance, bare, 9))
            other = shown_page(chance, in_other_units(chance, bare), random_counts(chance, bare, 9))
            found = both(one, other)
            for value in list(bends(found)) + [possible(one), possible(other), both(other, one)]:
                told = is_right((one, other), value)
                self.assertIs(shows_both(one, other, value), told, (one.text, other.text, value))
                seen[told] += 1
        self.assertGreater(min(seen.values()), 50, seen)

    def test_counts_that_fit_just_one(self):
        page = Page(EXAMPLE)
        other = page.told("open", 24)
        fitting = ("table", (18, 13, 13, 8))
        self.assertIs(shows_possible(page, fitting), True)
        self.assertIs(shows_both(page, page, fitting), True)
        self.assertIs(shows_both(page, other, fitting), False)
        self.assertIs(shows_both(other, page, fitting), False)

    def test_values_of_any_kind(self):
        page = Page(EXAMPLE)
        for other in (page.told("open", 25), page.told("open", "some")):
            for value in any_values():
                for offered in (value, ("table", value), ("never", value), (value, both(page, other)[1])):
                    self.assertIs(shows_both(page, other, offered), is_right((page, other), offered))

    def test_unlike(self):
        one = Page(EXAMPLE)
        lines = EXAMPLE.split("\n")
        texts = [
            EXAMPLE.replace("old", "aged"), EXAMPLE.replace("all", "asked"), "\n".join(lines[:-1]),
            EXAMPLE + "\npart other of yes", EXAMPLE.replace("old of yes", "old of no"),
            "\n".join(lines[:2] + [lines[3], lines[2]] + lines[4:]), "\n".join(lines[:5] + [lines[6], lines[5]]),
            EXAMPLE.replace("part open of all", "part open of no"), "in 2 up\nasked x\npart y of x",
        ]
        wrong = any_values() + [Page(text) for text in texts] + [EXAMPLE, (one,), [one], one.parts]
        for other in wrong:
            self.refuses(Unlike, other, both, one, other)
            for value in (("table", (18, 13, 13, 8)), None, [], ("never", ())):
                self.refuses(Unlike, other, shows_both, one, other, value)
        self.refuses(Unlike, one, both, Page(texts[0]), one)

    def test_like(self):
        one = Page(EXAMPLE)
        for text in (
            EXAMPLE, EXAMPLE.replace("near", "down"), EXAMPLE.replace("100", "99"), EXAMPLE.replace("40", "41"),
            EXAMPLE.replace(" is 40", " all 40"), EXAMPLE.replace(" is 40", ""), EXAMPLE + " all some",
        ):
            self.told(one, Page(text))
            self.told(Page(text), one)

    def test_by_name(self):
        one = Page(EXAMPLE)
        other = one.told("open", 25)
        self.assertEqual(both(one=one, other=other), both(one, other))
        self.assertEqual(both(other=other, one=one), both(one, other))
        self.assertIs(shows_both(value=both(one, other), other=other, one=one), True)
        self.refuses(Unlike, 7, both, other=7, one=one)
        self.refuses(Unlike, 7, shows_both, value=None, other=7, one=one)


if __name__ == "__main__":
    unittest.main()
