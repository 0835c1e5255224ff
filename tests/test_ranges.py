"""Point 10: exact shares."""

import random
import unittest
from fractions import Fraction

from anyasked.errors import Empty, NoPart, NoTable
from anyasked.pages import Page
from anyasked.possible import possible
from anyasked.ranges import ratio, shows_ratio
from tests.anyvalues import Refusals, any_values
from tests.countedpages import any_page, counted_page, flat_page
from tests.elimination import can_be
from tests.pagetexts import EXAMPLE
from tests.ratios import is_right, row_for
from tests.reckoning import bends, fits, many_in, reach, rows_of, small_tables
from tests.test_papers import plus

DEEP = (
    "in 10 near\nasked all\npart a of all is 6\npart b of a is 5\npart c of b is none\npart d of b\npart e of a all 3\n"
    "part f of all is 4\npart g of f is some\npart h of f"
)


def told_of(side):
    """The ratio of a bound and whether it is reached, () where there is none."""
    return () if side[0] == () else (Fraction(*side[0]), side[1])


class RatioCase(unittest.TestCase, Refusals):
    def told(self, page, part, other):
        """The bounds that ratio tells, which have to be right."""
        found = ratio(page, part, other)
        self.assertTrue(is_right(page, part, other, found), (page.text, part, other, found))
        self.assertIs(shows_ratio(page, part, other, found), True)
        return tuple(told_of(side) for side in found)

    def asked(self, chance, **more):
        """A page, and two of its parts in the latter of which somebody can be."""
        while True:
            page, counts = counted_page(chance, **more)
            part, other = chance.choice(page.parts), chance.choice(page.parts)
            if many_in(page, counts, other) > 0:
                return page, part, other


class RatioTest(RatioCase):
    def test_the_documents_example(self):
        page = Page(EXAMPLE)
        self.assertEqual([[side[:2] for side in ratio(page, part, "all")] for part in ("open", "young")], [
            [((6, 25), False), ((13, 50), True)], [((9717, 40000), True), ((81, 320), False)],
        ])
        for part in page.parts:
            for other in page.parts:
                self.told(page, part, other)

    def test_a_told_share_has_the_bounds_of_its_stretch(self):
        for how in ("near", "even", "down", "up"):
            for base in (2, 3, 7, 100):
                for share in [*range(base + 1), "none", "some"]:
                    low, is_low, high, is_high = reach((base, how), share)
                    for shares in (([share, None], [None, None]), ([None, None], [share, None])):
                        page = flat_page((base, how), *shares)
                        self.assertEqual(self.told(page, "a", "all"), ((low, is_low), (high, is_high)))
                        self.assertEqual(self.told(page, "b", "all"), ((1 - high, is_high), (1 - low, is_low)))

    def test_by_hand(self):
        page = Page(DEEP)
        half, one = Fraction(1, 2), Fraction(1)
        cases = {
            ("all", "all"): ((one, True), (one, True)), ("c", "all"): ((0, True), (0, True)),
            ("b", "d"): ((one, True), (one, True)), ("d", "b"): ((one, True), (one, True)),
            ("c", "b"): ((0, True), (0, True)), ("b", "a"): ((Fraction(9, 20), True), (Fraction(11, 20), False)),
            ("a", "b"): ((Fraction(20, 11), False), (Fraction(20, 9), True)),
            ("e", "a"): ((Fraction(9, 20), False), (Fraction(11, 20), True)),
            ("g", "f"): ((0, False), (Fraction(1, 10), False)), ("f", "g"): ((10, False), ()),
            ("h", "f"): ((Fraction(9, 10), False), (one, False)), ("h", "g"): ((9, False), ()),
            ("g", "h"): ((0, False), (Fraction(1, 9), False)), ("c", "g"): ((0, True), (0, True)),
            ("a", "all"): ((Fraction(11, 20), False), (Fraction(13, 20), False)),
            ("f", "all"): ((Fraction(7, 20), False), (Fraction(9, 20), False)),
            ("all", "g"): ((Fraction(200, 9), False), ()), ("e", "all"): ((half / 2, True), (Fraction(7, 20), False)),
        }
        # a is from 11 to 13 of 20, f from 7 to 9, both less than the greater one, as they sum to all.
        for (part, other), bounds in cases.items():
            with self.subTest((part, other)):
                self.assertEqual(self.told(page, part, other), bounds)

    def bounds_of(self, page, part, other):
        """What ratio tells, checked against elimination, too."""
        found = self.told(page, part, other)
        self.check_by_elimination(page, part, other, found)
        return found

    def check_by_elimination(self, page, part, other, found):
        """Beyond a bound is no table that fits; just at it there is one if it is reached, near it always."""
        told = rows_of(page) + (row_for(page, ((other, 1),), "more"),)
        for sign, side in zip((1, -1), found):
            if side == ():
                far = row_for(page, ((part, 1), (other, -(10 ** 9))), "more")
                self.assertTrue(can_be(told + (far,)))
                continue
            over, under = side[0].as_integer_ratio()
            least, more = (row_for(page, ((other, sign * over), (part, -sign * under)), w) for w in ("least", "more"))
            self.assertFalse(can_be(told + (more,)))
            self.assertIs(can_be(told + (least,)), side[1])
            over, under = (side[0] + sign * Fraction(1, 10 ** 9)).as_integer_ratio()
            self.assertTrue(can_be(told + (row_for(page, ((other, sign * over), (part, -sign * under)), "least"),)))

    def test_at_random_by_elimination(self):
        chance = random.Random(101)
        seen = {}
        for _ in range(250):
            page, part, other = self.asked(chance, most_ends=3, told=chance.choice((0.3, 0.6)))
            low, high = self.bounds_of(page, part, other)
            for side in ("low", low[1]), ("high", high and high[1]):
                seen[side] = seen.get(side, 0) + 1
        self.assertEqual(len(seen), 5)
        self.assertGreater(min(seen.values()), 10, seen)

    def test_at_random(self):
        chance = random.Random(102)
        seen = {}
        for _ in range(500):
            page, counts = counted_page(chance, chance.choice((3, 60, 10 ** 6)), chance.choice((0.3, 0.6, 0.9)))
            part = chance.choice(page.parts)
            other = chance.choice([other for other in page.parts if many_in(page, counts, other)])
            low, high = self.told(page, part, other)
            exact = Fraction(many_in(page, counts, part), many_in(page, counts, other))
            self.assertLessEqual(low, (exact, True))
            if high:
                self.assertLessEqual((exact, False), high)
                self.assertLessEqual(low[0], high[0])
            seen[len(page.ends)] = seen.get(len(page.ends), 0) + 1
        self.assertEqual(len(seen), 6)
        self.assertGreater(min(seen.values()), 20, seen)

    def test_turned_about(self):
        chance = random.Random(103)
        many = 0
        for _ in range(300):
            page, part, other = self.asked(chance, most_ends=3)
            low, high = self.told(page, part, other)
            if part in page.beneath(other) or other == part:
                self.assertLessEqual(high[0], 1)
            # Where somebody is in part by all tables that fit, the bounds of the other ratio are these turned about.
            if low > (0, True) and not can_be(rows_of(page) + (row_for(page, ((part, -1),), "least"),)):
                if can_be(rows_of(page) + (row_for(page, ((other, -1),), "least"),)):
                    continue
                many += 1
                back = self.told(page, other, part)
                self.assertEqual(back[0], (1 / high[0], high[1]) if high else (0, False))
                self.assertEqual(back[1], (1 / low[0], low[1]) if low[0] else ())
        self.assertGreater(many, 30)

    def test_a_part_in_itself_beneath_it_and_in_the_first_part(self):
        chance = random.Random(104)
        for _ in range(120):
            page, part, other = self.asked(chance)
            self.assertEqual(self.told(page, other, other), ((1, True), (1, True)))
            low, high = self.told(page, page.parts[0], other)
            self.assertGreaterEqual(low[0], 1)
            for beneath in page.beneath(other):
                low, high = self.told(page, beneath, other)
                self.assertGreaterEqual(low[0], 0)
                self.assertLessEqual(high[0], 1)

    def test_no_greatest_one(self):
        page = flat_page((10, "near"), [None, "some", None])
        for part, other in (("a", "b"), ("c", "b"), ("all", "b"), ("a", "c"), ("b", "c"), ("all", "c")):
            found = ratio(page, part, other)
            self.assertEqual(found[1][0], ())
            self.assertEqual(len(found[1]), 2)
            self.assertEqual(many_in(page, found[1][1], other), 0)
            self.assertGreater(many_in(page, found[1][1], part), 0)
            self.told(page, part, other)
        self.assertEqual(self.told(page, "b", "all"), ((0, False), (Fraction(1, 10), False)))
        self.assertEqual(self.told(page, "a", "all"), ((0, True), (1, False)))

    def test_nobody_ever_in_the_part(self):
        page = flat_page((10, "near"), ["none", None, "some"])
        for other in ("b", "c", "all"):
            self.assertEqual(self.told(page, "a", other), ((0, True), (0, True)))

    def test_forced_ones_at_both_ends(self):
        page = Page("in 100 near\nasked all\npart a of all is 50\npart b of all is 51")
        found = ratio(page, "a", "all")
        self.assertEqual([side[:2] for side in found], [((99, 200), True), ((99, 200), True)])
        self.assertEqual(self.told(page, "a", "b"), ((Fraction(99, 101), True), (Fraction(99, 101), True)))

    def test_equal_calls_return_equal_results_by_position_and_by_name(self):
        chance = random.Random(105)
        for _ in range(30):
            page, part, other = self.asked(chance)
            text = page.text
            found = ratio(page, part, other)
            self.assertEqual(ratio(Page(text), part, other), found)
            self.assertEqual(ratio(other=other, page=page, part=part), found)
            self.assertIs(shows_ratio(value=found, other=other, part=part, page=page), True)
            self.assertEqual(page.text, text)


class RefusingTest(RatioCase):
    def test_no_part(self):
        for page in (Page(EXAMPLE), Page(EXAMPLE).told("open", 27)):
            for value in any_values() + ["Yes", "nobody", "yes "]:
                if value.__class__ is str and value in page.parts:
                    continue
                for other in ("yes", "nobody", None):
                    self.refuses(NoPart, value, ratio, page, value, other)
                    self.refuses(NoPart, value, shows_ratio, page, value, other, None)
                self.refuses(NoPart, value, ratio, page, "all", value)
                self.refuses(NoPart, value, shows_ratio, page, "all", value, ((), ()))

    def test_no_table(self):
        chance = random.Random(106)
        many = 0
        while many < 40:
            page = any_page(chance)
            if possible(page)[0] == "table":
                continue
            many += 1
            part, other = chance.choice(page.parts), chance.choice(page.parts)
            self.refuses(NoTable, None, ratio, page, part, other)
            for value in (None, (), possible(page), ((), ())):
                self.refuses(NoTable, None, shows_ratio, page, part, other, value)

    def test_empty(self):
        page = Page("in 10 near\nasked all\npart a of all\npart b of all all none\npart c of b\npart d of b")
        for other in ("b", "c", "d"):
            for part in page.parts:
                self.refuses(Empty, other, ratio, page, part, other)
                self.refuses(Empty, other, shows_ratio, page, part, other, ((((0, 1), True, (1, 0, 0), ()),) * 2))
        self.assertEqual(self.told(page, "b", "a"), ((0, True), (0, True)))
        self.refuses(NoTable, None, ratio, page.told("a", 5), "a", "b")
        self.refuses(Empty, "a", ratio, flat_page((3, "up"), ["none", None]), "all", "a")
        self.refuses(Empty, "a", ratio, flat_page((3, "up"), [0, None]), "a", "a")
        self.assertEqual(self.told(flat_page((3, "near"), [0, None]), "a", "a"), ((1, True), (1, True)))

    def test_empty_by_shares_of_others(self):
        page = flat_page((2, "even"), [1, 1, None])
        self.assertEqual(self.told(page, "c", "all"), ((0, True), (Fraction(1, 2), False)))
        page = flat_page((100, "near"), [50, 51, None])
        for part in page.parts:
            self.refuses(Empty, "c", ratio, page, part, "c")

    def test_by_name(self):
        page = Page(EXAMPLE)
        self.refuses(NoPart, 5, ratio, other=6, part=5, page=page)
        self.refuses(NoPart, 6, shows_ratio, value=None, other=6, part="all", page=page)


class ShowsRatioTest(RatioCase):
    def same(self, page, part, other, value):
        told = is_right(page, part, other, value)
        self.assertIs(shows_ratio(page, part, other, value), told, (page.text, part, other, value))
        return told

    def test_other_counts_and_papers(self):
        chance = random.Random(107)
        endless = 0
        for _ in range(80):
            page, part, other = self.asked(chance)
            found = ratio(page, part, other)
            endless += found[1][0] == ()
            for times in (2, 7, 10 ** 40):
                sides = []
                for side in found:
                    if side[0] == ():
                        sides.append(((), tuple(times * many for many in side[1])))
                        continue
                    counts = tuple(times * many for many in side[2])
                    sides.append((side[0], side[1], counts, plus(side[3], Fraction(times, 3))))
                self.assertTrue(self.same(page, part, other, tuple(sides)))
                self.assertTrue(self.same(page, part, other, (sides[0], found[1])))
        self.assertGreater(endless, 5)

    def test_other_counts_of_the_same_ratio(self):
        chance = random.Random(108)
        many = {True: 0, False: 0}
        for _ in range(40):
            page, part, other = self.asked(chance, most=6, told=0.4, most_ends=3)
            low, high = ratio(page, part, other)
            for counts in small_tables(page, 5):
                many[self.same(page, part, other, (low[:2] + (counts,) + low[3:], high))] += 1
                if high[0] == ():
                    many[self.same(page, part, other, (low, ((), counts)))] += 1
                else:
                    many[self.same(page, part, other, (low, high[:2] + (counts,) + high[3:]))] += 1
        self.assertGreater(min(many.values()), 200, many)

    def test_other_bounds(self):
        chance = random.Random(109)
        for _ in range(60):
            page, part, other = self.asked(chance)
            low, high = ratio(page, part, other)
            self.assertFalse(self.same(page, part, other, (low[:1] + (not low[1],) + low[2:], high)))
            self.assertFalse(self.same(page, part, other, (low[:1] + (int(low[1]),) + low[2:], high)))
            self.assertFalse(self.same(page, part, other, (high, low)) and low[0] != high[0])
            self.assertFalse(self.same(page, part, other, (((), low[2]), high)))
            if high[0] == ():
                continue
            self.assertFalse(self.same(page, part, other, (low, high[:1] + (not high[1],) + high[2:])))
            self.assertFalse(self.same(page, part, other, (low, ((), high[2]))))
            for change in (Fraction(1, 7), Fraction(1, 10 ** 9), Fraction(-1, 10 ** 9), Fraction(1)):
                for at, side in enumerate((low, high)):
                    moved = Fraction(*side[0]) + change
                    if moved < 0:
                        continue
                    sides = [low, high]
                    sides[at] = ((moved.numerator, moved.denominator),) + side[1:]
                    self.assertFalse(self.same(page, part, other, tuple(sides)))

    def test_bounds_not_in_least_terms(self):
        page = Page(EXAMPLE)
        low, high = ratio(page, "open", "all")
        self.assertEqual((low[0], high[0]), ((6, 25), (13, 50)))
        for found in ((12, 50), (-6, -25), (6, 25, 1), [6, 25], 6, (6,), (6, True), ("6", 25), (6, 0), (), None):
            self.assertFalse(self.same(page, "open", "all", ((found,) + low[1:], high)))
            self.assertFalse(self.same(page, "open", "all", (low, (found,) + high[1:])))

    def test_counts_by_which_a_bound_is_reached_nearly(self):
        # Half are in a at most, and less than half; counts with just half do not fit.
        page = Page("in 2 down\nasked all\npart a of all is 0\npart b of all")
        low, high = ratio(page, "a", "all")
        self.assertEqual((low[:2], high[:2]), (((0, 1), True), ((1, 2), False)))
        self.assertEqual(rows_of(page)[5], ((-1, 1), "more"))
        for counts, told in (((1, 1), True), ((3, 3), True), ((1, 2), False), ((2, 1), False), ((0, 0), False)):
            self.assertIs(self.same(page, "a", "all", (low, high[:2] + (counts,) + high[3:])), told)
        for paper, told in (
            (((5, (1, 1)), (7, (1, 1))), True), (((5, (1, 1)), (6, (1, 9)), (7, (1, 1))), False),
            (((5, (1, 1)), (7, (2, 1))), False), (((4, (1, 1)), (7, (1, 1))), False), (((7, (1, 1)),), False),
        ):
            self.assertIs(self.same(page, "a", "all", (low, high[:3] + (paper,))), told, paper)

    def test_bent_ones(self):
        chance = random.Random(110)
        seen = {}
        for _ in range(25):
            page, part, other = self.asked(chance, most_ends=4, told=0.5)
            own = ratio(page, part, other)
            for value in bends(own):
                key = own[1][0] == (), self.same(page, part, other, value)
                seen[key] = seen.get(key, 0) + 1
        self.assertEqual(len(seen), 4)
        self.assertGreater(min(seen.values()), 3, seen)

    def test_values_of_any_kind(self):
        for page, part, other in (
            (Page(EXAMPLE), "open", "all"), (Page(EXAMPLE), "old", "young"),
            (flat_page((10, "near"), [None, "some"]), "a", "b"), (flat_page((10, "near"), ["none", None]), "a", "all"),
        ):
            low, high = ratio(page, part, other)
            for value in any_values():
                self.assertIs(shows_ratio(page, part, other, value), False)
                offered = [(value, value), (low, value), (value, high), (low, high, value), (low, ((), value))]
                offered += [(low, (value, high[1])), (low, (value,))]
                for at in range(4):
                    offered.append((low[:at] + (value,) + low[at + 1:], high))
                    offered.append((low, high[:at] + (value,) + high[at + 1:]))
                for one in offered:
                    self.same(page, part, other, one)


class BetweenTest(RatioCase):
    def test_small_tables_lie_between_the_bounds(self):
        chance = random.Random(111)
        reached = 0
        for _ in range(60):
            page, part, other = self.asked(chance, most=6, told=0.4, most_ends=3)
            low, high = self.told(page, part, other)
            for counts in small_tables(page, 6):
                whole = many_in(page, counts, other)
                if whole == 0 or not fits(page, counts):
                    continue
                exact = Fraction(many_in(page, counts, part), whole)
                self.assertTrue(low[0] < exact or (low[1] and low[0] == exact))
                self.assertTrue(high == () or exact < high[0] or (high[1] and high[0] == exact))
                reached += exact == low[0]
        self.assertGreater(reached, 50)


del RatioCase

if __name__ == "__main__":
    unittest.main()
