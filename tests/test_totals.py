"""Point 12: how many were asked."""

import random
import unittest
from math import gcd

from anyasked.errors import BadTotal, NoPart, NoTable
from anyasked.holding import judged
from anyasked.pages import Page
from anyasked.possible import possible
from anyasked.tables import Table
from anyasked.totals import can, counts_at, shows_can, step, totals
from tests.anyvalues import Refusals, any_values, is_plain_integer
from tests.countedpages import (
    any_page, bare_page, counted_page, flat_page, moved_page, random_counts, shown_page,
)
from tests.elimination import can_be
from tests.pagetexts import EXAMPLE, HOWS
from tests.reckoning import bends, fits, many_in, reach, rows_of
from tests.totalling import can_be_flat, counts_with, flat_bounds, is_right, step_of

TIGHT = "in 100 near\nasked all\npart a of all is 50\npart b of all is 51"


def forced_by_elimination(page):
    """The weights of the rows with "least" that are never so with "more"."""
    found = rows_of(page)
    return [weights for weights, word in found if word == "least" and not can_be(found + ((weights, "more"),))]


def forced_by_statements(page):
    """The same, by what judged tells of each row as a statement."""
    statements = [(((end, 1),), "more") for end in page.ends]
    for part in page.parts[1:]:
        for whole, share in ((page[part][0], page[part][1]), (page.parts[0], page[part][2])):
            if share is None:
                continue
            low, is_low, high, is_high = reach(page.units, share)
            for bound, is_reached, sign in ((low, is_low, 1), (high, is_high, -1)):
                terms = [(part, sign * bound.denominator), (whole, -sign * bound.numerator)]
                if is_reached:
                    statements.append((tuple(sorted(term for term in terms if term[1])), "more"))
    forced = []
    for statement in statements:
        if judged(page, statement)[0] == "never":
            forced.append(tuple(
                sum(weight for part, weight in statement[0] if end in page.ends_of(part)) for end in page.ends
            ))
    return forced


def tight_page(chance):
    """A flat page in which all shares stand at one end of what they show, so that the rows are forced."""
    while True:
        base, ends = chance.choice((2, 3, 4, 6, 10, 30, 100)), chance.randint(2, 6)
        shares = [chance.randint(0, base // ends) for _ in range(ends - 1)]
        how = chance.choice(HOWS)
        excess = {"near": chance.choice((0, ends // 2)), "even": chance.choice((0, ends // 2))}.get(how, 0)
        last = base + excess - sum(shares)
        if 0 <= last <= base:
            page = flat_page((base, how), shares + [last])
            if possible(page)[0] == "table":
                return page


def fitting_page(chance, **more):
    return counted_page(chance, **more)[0]


class StepTest(unittest.TestCase, Refusals):
    def test_the_documents_example(self):
        page, tight = Page(EXAMPLE), Page(TIGHT)
        self.assertEqual([step(page), step(tight), possible(tight)[0]], [1, 200, "table"])

    def test_by_hand(self):
        cases = [
            ("in 100 near/part a of all is none/part b of all", 1),
            ("in 3 down/part a of all is 1/part b of all is 2", 3),
            ("in 3 down/part a of all is 1/part b of all is 1/part c of all is 1", 3),
            ("in 3 down/part a of all is 1/part b of all is 1/part c of all", 1),
            ("in 6 up/part a of all is 2/part b of all is 4", 3),
            ("in 6 up/part a of all is 2/part b of all is 3/part c of all is 1", 6),
            ("in 100 down/part a of all is 40/part b of all is 60/part c of a is 25/part d of a is 75", 10),
            ("in 100 down/part a of all is 40/part b of all is 60/part c of a is 23/part d of a is 77", 250),
            ("in 100 down/part a of all/part b of all/part c of a is 23/part d of a is 77", 1),
            ("in 100 down/part a of all is 60/part c of a is 50/part d of a is 50/part b of all is 40", 10),
            ("in 7 down/part a of all/part b of a is 3/part c of a is 4", 7),
            ("in 7 down/part a of all/part b of a/part c of b is 1/part d of b is 3/part e of b is 3", 7),
            ("in 100 near/part a of all is 50/part b of all is 51/part c of a/part d of a is 0", 200),
            ("in 100 even/part a of all is 50/part b of all is 50", 1),
            ("in 10 down/part a of all is 2 all 2/part b of all is 8 all 8", 5),
            ("in 10 down/part a of all/part b of all/part c of a all 2/part d of a all 3/part e of b all 5", 10),
        ]
        for text, told in cases:
            with self.subTest(text):
                units, *parts = text.split("/")
                page = Page("\n".join([units, "asked all"] + parts))
                self.assertEqual(possible(page)[0], "table")
                self.assertEqual(step_of(forced_by_statements(page), len(page.ends)), told)
                self.assertEqual(step(page), told)

    def test_by_elimination(self):
        chance = random.Random(121)
        seen = {}
        for _ in range(250):
            bare = bare_page(chance, 3)
            page = shown_page(chance, bare, random_counts(chance, bare, 4), chance.choice((0.3, 0.8)))
            forced = forced_by_elimination(page)
            self.assertEqual(step(page), step_of(forced, len(page.ends)), page.text)
            seen[min(len(forced), 3)] = seen.get(min(len(forced), 3), 0) + 1
        self.assertEqual(set(seen), {0, 1, 2, 3})

    def test_by_statements(self):
        chance = random.Random(122)
        seen = {}
        for kind in range(240):
            page = tight_page(chance) if kind % 2 else fitting_page(chance, most=5, told=chance.choice((0.5, 1)))
            found = step_of(forced_by_statements(page), len(page.ends))
            self.assertEqual(step(page), found, page.text)
            seen[found > 1] = seen.get(found > 1, 0) + 1
        self.assertGreater(min(seen.values()), 40, seen)

    def test_no_row_that_is_forced(self):
        for ends in range(2, 7):
            self.assertEqual(step(flat_page((100, "near"), [None] * ends)), 1)
            self.assertEqual(step(flat_page((ends, "near"), [1] * ends)), 1)
            self.assertEqual(step(flat_page((ends, "down"), [1] * ends)), ends)
            self.assertEqual(step(flat_page((ends, "up"), [1] * ends)), ends)

    def test_totals_are_multiples_and_make_no_greater_one(self):
        chance = random.Random(123)
        just = {1: 0, 2: 0}
        for kind in range(80):
            page = tight_page(chance) if kind % 2 else fitting_page(chance, most=9)
            found = step(page)
            many = totals(page, 1, 150)
            self.assertEqual([total % found for total in many], [0] * len(many), page.text)
            self.assertEqual(sum(possible(page)[1]) % found, 0)
            just[min(found, 2)] += gcd(*many) == found
        self.assertGreater(min(just.values()), 10, just)

    def test_no_table(self):
        chance = random.Random(124)
        many = 0
        while many < 40:
            page = any_page(chance)
            if possible(page)[0] == "never":
                many += 1
                self.refuses(NoTable, None, step, page)
        self.refuses(NoTable, None, step, page=Page(EXAMPLE).told("open", 27))

    def test_equal_calls_return_equal_results(self):
        chance = random.Random(125)
        for _ in range(30):
            page = tight_page(chance)
            self.assertEqual(step(page), step(page=Page(page.text)))


class CanCase(unittest.TestCase, Refusals):
    def told(self, page, total):
        """What can tells, which has to be right."""
        found = can(page, total)
        self.assertTrue(is_right(page, total, found), (page.text, total, found))
        self.assertIs(shows_can(page, total, found), True)
        return found[0]


class CanTest(CanCase):
    def test_the_documents_example(self):
        page, tight = Page(EXAMPLE), Page(TIGHT)
        self.assertEqual([can(tight, 150)[0], totals(page, 1, 90)], ["never", (52, 65, 72, 84, 85, 86)])
        found = [counts_at(page, 52, part) for part in ("yes", "no", "young")] + [counts_at(page, 53, "all")]
        self.assertEqual(found, [(21,), (18,), (13,), ()])
        for total in (52, 53, 84, 150):
            self.assertEqual(self.told(page, total), "can" if total in (52, 84, 150) else "never")

    def test_small_pages_against_all_counts(self):
        chance = random.Random(126)
        seen = {}
        for _ in range(90):
            bare = bare_page(chance, 4)
            page = shown_page(chance, bare, random_counts(chance, bare, 6), chance.choice((0.3, 0.6, 0.9)))
            if chance.random() < 0.3:
                page = moved_page(chance, page)
            for total in range(1, 13 if len(page.ends) == 4 else 18):
                fitting = [counts for counts in counts_with(len(page.ends), total) if fits(page, counts)]
                told = self.told(page, total)
                self.assertEqual(told, "can" if fitting else "never", (page.text, total))
                for part in page.parts:
                    numbers = tuple(sorted({many_in(page, counts, part) for counts in fitting}))
                    self.assertEqual(counts_at(page, total, part), numbers, (page.text, total, part))
                seen[told] = seen.get(told, 0) + 1
        self.assertGreater(min(seen.values()), 200, seen)

    def test_flat_pages(self):
        chance = random.Random(127)
        seen = {}
        for _ in range(60):
            units, ends = (chance.choice((2, 3, 5, 10, 30, 100)), chance.choice(HOWS)), chance.randint(2, 6)
            counts = [chance.randint(0, 20) for _ in range(ends)]
            counts[0] += 1
            bare = flat_page(units, [None] * ends)
            page = shown_page(chance, bare, tuple(counts), 0.8)
            nears, fars = ([page[part][at] for part in page.ends] for at in (1, 2))
            expected = [total for total in range(1, 151) if can_be_flat(units, nears, fars, total)]
            self.assertEqual(totals(page, 1, 150), tuple(expected), page.text)
            self.assertIn(sum(counts), expected)
            for total in chance.sample(range(1, 151), 12):
                told = can(page, total)
                self.assertEqual(told[0], "can" if total in expected else "never")
                self.assertIs(shows_can(page, total, told), True)
                if total <= 40:
                    self.told(page, total)
                seen[told[0]] = seen.get(told[0], 0) + 1
        self.assertGreater(min(seen.values()), 60, seen)

    def test_numbers_of_flat_pages(self):
        chance = random.Random(128)
        for _ in range(40):
            ends = chance.randint(2, 6)
            bare = flat_page((chance.choice((2, 10, 100)), chance.choice(HOWS)), [None] * ends)
            page = shown_page(chance, bare, random_counts(chance, bare, 20), 0.6)
            shares = {part: page[part][1:] for part in page.ends}
            for total in chance.sample(range(1, 151), 10):
                bounds = {part: flat_bounds(page.units, shares[part], total) for part in page.ends}
                for part in page.ends:
                    numbers = ()
                    if None not in bounds.values():
                        others = [bounds[other] for other in page.ends if other != part]
                        least = max(bounds[part][0], total - sum(most for _, most in others))
                        most = min(bounds[part][1], total - sum(low for low, _ in others))
                        numbers = tuple(range(least, most + 1))
                    self.assertEqual(counts_at(page, total, part), numbers, (page.text, total, part))

    def test_parts_beneath_parts(self):
        chance = random.Random(129)
        seen = {}
        for _ in range(40):
            page, counts = counted_page(chance, 9)
            total = sum(counts)
            self.assertEqual(self.told(page, total), "can")
            for part in page.parts:
                self.assertIn(many_in(page, counts, part), counts_at(page, total, part))
            for other in chance.sample(range(1, 30), 4):
                told = self.told(page, other)
                seen[told] = seen.get(told, 0) + 1
        self.assertGreater(min(seen.values()), 20, seen)

    def test_great_totals_of_parts_beneath_parts(self):
        chance = random.Random(130)
        seen = {}
        many = 0
        while many < 60:
            page, counts = counted_page(chance, 40, 0.8)
            if not 90 <= sum(counts) <= 150:
                continue
            many += 1
            self.assertEqual(can(page, sum(counts))[0], "can")
            for total in (sum(counts), *chance.sample(range(90, 151), 3)):
                found = can(page, total)
                self.assertIs(shows_can(page, total, found), True)
                if found[0] == "can":
                    self.assertTrue(is_right(page, total, found))
                elif chance.random() < 0.1:
                    self.assertTrue(is_right(page, total, found))
                seen[found[0]] = seen.get(found[0], 0) + 1
        self.assertGreater(min(seen.values()), 20, seen)

    def test_many_ends_against_all_counts(self):
        chance = random.Random(131)
        many = 0
        while many < 40:
            bare = bare_page(chance)
            page = shown_page(chance, bare, random_counts(chance, bare, 3), 0.4)
            if len(page.ends) < 5:
                continue
            many += 1
            for total in (1, 4, 6):
                fitting = [counts for counts in counts_with(len(page.ends), total) if fits(page, counts)]
                self.assertEqual(self.told(page, total), "can" if fitting else "never")
                for part in page.parts:
                    numbers = tuple(sorted({many_in(page, counts, part) for counts in fitting}))
                    self.assertEqual(counts_at(page, total, part), numbers, (page.text, total, part))

    def test_far_shares(self):
        page = Page("in 10 near\nasked all\npart a of all all 5\npart b of all\npart c of a all 2\npart d of a")
        self.assertEqual(self.told(page, 1), "never")
        self.assertEqual(can(page, 1)[1], ((), (), (0, 1), (), (0, 1)))
        self.assertEqual(counts_at(page, 10, "a"), (5,))
        self.assertEqual([counts_at(page, 10, part) for part in ("c", "d", "b")], [(2,), (3,), (5,)])
        page = Page("in 10 near\nasked all\npart a of all is 5 all 5\npart b of all")
        self.assertEqual(can(page, 1)[1], ((), (), (0, 1)))
        self.assertEqual(can(page.told_far("a", None), 1)[1], ((), (0, 1), (0, 1)))

    def test_nobody_in_the_part_above(self):
        page = Page("in 2 down\nasked all\npart a of all\npart b of all\npart c of a is none\npart d of a")
        self.assertEqual(counts_at(page, 3, "a"), (1, 2, 3))
        self.assertEqual(counts_at(page.told("c", None), 3, "a"), (0, 1, 2, 3))
        self.assertEqual(counts_at(page.told("d", 1), 3, "a"), ())
        self.assertEqual(counts_at(page.told("d", 2), 3, "d"), (1, 2, 3))
        never = page.told_far("a", "none")
        self.assertEqual(self.told(never, 1), "never")
        self.assertEqual(can(never, 1)[1], ((), (), (0, 1), (0, 1), (0, 1)))

    def test_totals(self):
        page = Page(EXAMPLE)
        every = totals(page, 1, 150)
        self.assertEqual(every, tuple(total for total in range(1, 151) if can(page, total)[0] == "can"))
        chance = random.Random(132)
        for _ in range(60):
            low, high = sorted((chance.randint(1, 150), chance.randint(1, 150)))
            self.assertEqual(totals(page, low, high), tuple(total for total in every if low <= total <= high))
        self.assertEqual((totals(page, 52, 52), totals(page, 53, 53), totals(page, 53, 64)), ((52,), (), ()))
        never = page.told("open", 27)
        self.assertEqual((totals(never, 1, 150), can(never, 52)[0], counts_at(never, 52, "yes")), ((), "never", ()))
        self.assertEqual(totals(Page("in 2 up\nasked x\npart y of x"), 1, 150), tuple(range(1, 151)))

    def test_equal_calls_return_equal_results_by_position_and_by_name(self):
        chance = random.Random(133)
        for _ in range(20):
            page = fitting_page(chance)
            text, total, part = page.text, chance.randint(1, 150), chance.choice(page.parts)
            found = can(page, total)
            self.assertEqual(can(total=total, page=Page(text)), found)
            self.assertIs(shows_can(value=found, total=total, page=page), True)
            self.assertEqual(counts_at(part=part, total=total, page=page), counts_at(page, total, part))
            self.assertEqual(totals(high=30, low=5, page=page), totals(page, 5, 30))
            self.assertEqual(page.text, text)


class BadTotalTest(CanCase):
    def wrong(self):
        more = [0, 151, -1, 152, 999999999, -150, True, False, (52,), [52], "52", None]
        return more + [value for value in any_values() if not (is_plain_integer(value) and 1 <= value <= 150)]

    def test_bad_total(self):
        for page in (Page(EXAMPLE), Page(EXAMPLE).told("open", 27)):
            for value in self.wrong():
                self.refuses(BadTotal, value, can, page, value)
                self.refuses(BadTotal, value, shows_can, page, value, None)
                self.refuses(BadTotal, value, counts_at, page, value, "yes")
                self.refuses(BadTotal, value, counts_at, page, value, "nobody")
                self.refuses(BadTotal, value, totals, page, value, 150)
                self.refuses(BadTotal, value, totals, page, 150, value)
                self.refuses(BadTotal, value, totals, page, value, 0)
                self.refuses(BadTotal, value, totals, page, value, True)

    def test_high_less_than_low(self):
        for page in (Page(EXAMPLE), Page(EXAMPLE).told("open", 27), flat_page((5, "near"), [None])):
            for low, high in ((53, 52), (2, 1), (150, 1), (150, 149), (52, 51), (5, 4), (85, 84)):
                self.refuses(BadTotal, high, totals, page, low, high)
                self.refuses(BadTotal, high, totals, high=high, low=low, page=page)
            self.refuses(BadTotal, 151, totals, page, 151, 4)
            for low, high in ((1, 1), (52, 52), (53, 53), (150, 150), (4, 5), (149, 150)):
                self.assertLessEqual(set(totals(page, low, high)), {low, high})
        every = flat_page((5, "near"), [None])
        self.assertEqual((totals(every, 5, 5), totals(every, 4, 5), totals(every, 1, 1)), ((5,), (4, 5), (1,)))

    def test_no_part(self):
        for page in (Page(EXAMPLE), Page(EXAMPLE).told("open", 27)):
            for value in any_values() + ["nobody", "Yes"]:
                if value.__class__ is str and value in page.parts:
                    continue
                self.refuses(NoPart, value, counts_at, page, 52, value)
                self.refuses(BadTotal, 0, counts_at, page, 0, value)
        self.refuses(NoPart, 5, counts_at, part=5, total=52, page=page)

    def test_by_name(self):
        page = Page(EXAMPLE)
        self.refuses(BadTotal, 0, can, total=0, page=page)
        self.refuses(BadTotal, 0, shows_can, value=None, total=0, page=page)
        self.refuses(BadTotal, 0, totals, high=151, low=0, page=page)
        self.refuses(BadTotal, 151, totals, high=151, low=150, page=page)


class ShowsCanTest(CanCase):
    def same(self, page, total, value):
        told = is_right(page, total, value)
        self.assertIs(shows_can(page, total, value), told, (page.text, total, value))
        return told

    def test_other_counts(self):
        chance = random.Random(134)
        seen = {True: 0, False: 0}
        for _ in range(50):
            bare = bare_page(chance, 3)
            counts = random_counts(chance, bare, 4)
            page = shown_page(chance, bare, counts, 0.3)
            total = sum(counts)
            for other in (total, total + 1):
                for counts in counts_with(len(page.ends), other):
                    seen[self.same(page, total, ("can", counts))] += 1
        self.assertGreater(min(seen.values()), 100, seen)

    def never(self, chance, most=14):
        """A page, and a total which it never has, with the sets by which that is told."""
        while True:
            bare = bare_page(chance)
            page = shown_page(chance, bare, random_counts(chance, bare, 9), 0.8)
            total = chance.randint(1, most)
            word, sets = can(page, total)
            if word == "never":
                return page, total, sets

    def test_further_integers(self):
        chance = random.Random(135)
        seen = {True: 0, False: 0}
        for _ in range(60):
            page, total, sets = self.never(chance)
            for at in range(len(sets)):
                for number in range(-1, total + 2):
                    if number not in sets[at]:
                        more = tuple(sorted(sets[at] + (number,)))
                        told = self.same(page, total, ("never", sets[:at] + (more,) + sets[at + 1:]))
                        self.assertFalse(told and (number in (-1, total + 1) or (at, number) == (0, total)))
                        seen[told] += 1
        self.assertGreater(min(seen.values()), 100, seen)

    def test_all_integers(self):
        page = Page("in 10 down\nasked all\npart a of all is 5\npart b of all is 6\npart c of a is 3\npart d of a")
        total = 20
        word, sets = can(page, total)
        self.assertEqual((word, sets[2:]), ("never", (tuple(range(21)),) * 3))
        full = tuple(range(total + 1))
        self.assertTrue(self.same(page, total, ("never", sets[:1] + (full,) * 4)))
        self.assertTrue(self.same(page, total, ("never", (full[:-1],) + (full,) * 4)))
        self.assertTrue(self.same(page, total, ("never", (full[:-1],) + sets[1:])))
        self.assertFalse(self.same(page, total, ("never", (full,) * 5)))
        self.assertFalse(self.same(page, total, ("never", (full[:-1],) + (full,) * 3)))
        self.assertFalse(self.same(page, total, ("never", (full[:-1],) + (full,) * 5)))
        self.assertFalse(self.same(page, total, ("never", (full[:-1],) + (full,) * 3 + (full[:-1],))))

    def test_one_integer_less(self):
        chance = random.Random(136)
        many = 0
        for _ in range(60):
            page, total, sets = self.never(chance)
            for at in range(len(sets)):
                for out in range(len(sets[at])):
                    less = sets[at][:out] + sets[at][out + 1:]
                    self.assertFalse(self.same(page, total, ("never", sets[:at] + (less,) + sets[at + 1:])))
                    many += 1
        self.assertGreater(many, 500)

    def test_other_forms(self):
        chance = random.Random(137)
        for _ in range(60):
            page, total, sets = self.never(chance)
            for at in range(len(sets)):
                own = sets[at]
                wrong = [own[::-1], own + own, list(own), own + (total + 1,), (-1,) + own, set(own), None, 0]
                wrong += [tuple(bool(one) if one == 1 else one for one in own), tuple(str(one) for one in own)]
                wrong += [own + own[-1:], (0,) * 2 + own]
                for numbers in wrong:
                    if numbers == own and all(one.__class__ is int for one in numbers):
                        continue
                    self.assertFalse(self.same(page, total, ("never", sets[:at] + (numbers,) + sets[at + 1:])))
            self.assertFalse(self.same(page, total, ("never", sets[:-1])))
            self.assertFalse(self.same(page, total, ("never", sets + ((),))))
            self.assertFalse(self.same(page, total, ("can", sets)))
            self.assertFalse(self.same(page, total, ("never", list(sets))))
            self.assertFalse(self.same(page, total, ("never", sets, None)))
            self.assertFalse(self.same(page, total, ["never", sets]))

    def test_true_in_the_place_of_1(self):
        page = Page("in 2 even\nasked all\npart a of all is 1\npart b of all is none\npart c of all is none")
        word, sets = can(page, 1)
        self.assertEqual((word, sets), ("never", ((), (0, 1), (0, 1), (0, 1))))
        self.assertFalse(self.same(page, 1, (word, ((), (0, True), (0, 1), (0, 1)))))
        self.assertFalse(self.same(page, 1, (word, ((), (False, 1), (0, 1), (0, 1)))))
        page = flat_page((2, "even"), [None, None])
        self.assertTrue(self.same(page, 1, ("can", (1, 0))))
        self.assertFalse(self.same(page, 1, ("can", (True, 0))))
        self.assertFalse(self.same(page, 1, ("can", (1, False))))

    def test_sets_of_what_can_be(self):
        chance = random.Random(138)
        for _ in range(40):
            page, counts = counted_page(chance, 5)
            total = sum(counts)
            full = tuple(range(total + 1))
            for first in (full, full[:-1], ()):
                self.assertFalse(self.same(page, total, ("never", (first,) + (full,) * (len(page.parts) - 1))))
            other, total, sets = self.never(chance)
            if len(other.parts) == len(page.parts) and total == sum(counts):
                self.assertFalse(self.same(page, total, ("never", sets)))

    def test_bent_ones(self):
        chance = random.Random(139)
        seen = {}
        for _ in range(25):
            page, total, sets = self.never(chance, 5)
            further, counts = counted_page(chance, 4)
            for asked, many, own in ((page, total, ("never", sets)), (further, sum(counts), can(further, sum(counts)))):
                for value in bends(own):
                    key = own[0], self.same(asked, many, value)
                    seen[key] = seen.get(key, 0) + 1
        self.assertEqual(len(seen), 4)
        self.assertGreater(min(seen.values()), 5, seen)

    def test_values_of_any_kind(self):
        page = Page(EXAMPLE)
        for total in (52, 5):
            own = can(page, total)
            for value in any_values():
                self.assertIs(shows_can(page, total, value), False)
                for offered in (
                    ("can", value), ("never", value), (value, own[1]), own + (value,), (value,),
                    ("never", own[1][:-1] + (value,)), ("never", (value,) + own[1][1:]),
                    ("never", (value,) * 6), ("can", own[1][:-1] + (value,)),
                ):
                    self.same(page, total, offered)


class SumsTest(unittest.TestCase):
    def test_sums_of_totals_that_can_be_can_be(self):
        chance = random.Random(140)
        many = 0
        for kind in range(40):
            page = tight_page(chance) if kind % 4 == 0 else fitting_page(chance, most=9, told=0.9)
            found = set(totals(page, 1, 150))
            for total in found:
                for other in found:
                    if total + other <= 150:
                        self.assertIn(total + other, found)
                        many += 1
            for total in sorted(found)[:3]:
                one = Table(page, can(page, total)[1])
                self.assertEqual((one.total, one.fits, (one + one).fits), (total, True, True))
        self.assertGreater(many, 1000)


del CanCase

if __name__ == "__main__":
    unittest.main()
