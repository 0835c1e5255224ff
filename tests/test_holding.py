"""Point 9: statements."""

import random
import unittest
from fractions import Fraction

from anyasked.errors import BadStatement, NoTable
from anyasked.holding import judged, shows_judged
from anyasked.pages import Page
from anyasked.possible import possible
from tests.anyvalues import Refusals, any_values
from tests.countedpages import any_page, counted_page, flat_page
from tests.pagetexts import EXAMPLE
from tests.reckoning import bends, is_kind, row_of, rows_of, small_tables
from tests.statements import WORDS, is_right, other_signs, random_statement, with_word
from tests.test_papers import plus

DEEP = (
    "in 10 near\nasked all\npart a of all is 6\npart b of a is 5\npart c of b is none\npart d of b\npart e of a all 3\n"
    "part f of all is 4\npart g of f is some\npart h of f"
)


class JudgedCase(unittest.TestCase, Refusals):
    def told(self, page, statement):
        """What judged tells, which has to be right."""
        found = judged(page, statement)
        self.assertTrue(is_right(page, statement, found), (page.text, statement, found))
        self.assertIs(shows_judged(page, statement, found), True)
        return found[0]

    def counted(self, chance, **more):
        return counted_page(chance, **more)[0]


class JudgedTest(JudgedCase):
    def test_the_documents_example(self):
        page = Page(EXAMPLE)
        some = [
            ((("no", -1), ("yes", 1)), "more"), ((("no", -1), ("young", 1)), "more"),
            ((("old", 5), ("open", -3)), "just"),
        ]
        self.assertEqual([self.told(page, one) for one in some], ["always", "never", "open"])

    def test_the_ends_of_what_is_shown(self):
        # a is from 79 of 200 on, and less than 81 of 200.
        page = flat_page((100, "near"), [40, None])
        cases = {
            (200, -78): ("always", "always", "never"), (200, -79): ("always", "open", "open"),
            (200, -80): ("open", "open", "open"), (200, -81): ("never", "never", "never"),
            (200, -82): ("never", "never", "never"), (-200, 78): ("never", "never", "never"),
            (-200, 79): ("open", "never", "open"), (-200, 80): ("open", "open", "open"),
            (-200, 81): ("always", "always", "never"), (-200, 82): ("always", "always", "never"),
        }
        for (weight, whole), told in cases.items():
            for word, answer in zip(WORDS, told):
                with self.subTest((weight, whole, word)):
                    self.assertEqual(self.told(page, ((("a", weight), ("all", whole)), word)), answer)

    def test_parts_beneath_parts_the_first_part_and_none(self):
        page = Page(DEEP)
        self.assertEqual(possible(page)[0], "table")
        # By least, by more, by just.
        cases = {
            (("c", 1),): ("always", "never", "always"), (("c", -7),): ("always", "never", "always"),
            (("g", 1),): ("always", "always", "never"), (("g", -1),): ("never", "never", "never"),
            (("all", 1),): ("always", "always", "never"), (("all", -999),): ("never", "never", "never"),
            (("f", 1), ("g", -9)): ("always", "always", "never"), (("f", 1), ("g", -10)): ("always", "always", "never"),
            (("f", 1), ("g", -11)): ("open", "open", "open"), (("f", -1), ("g", 10)): ("never", "never", "never"),
            (("a", 1), ("all", -1), ("f", 1)): ("always", "never", "always"),
            (("a", 1), ("b", -1), ("e", -1)): ("always", "never", "always"),
            (("a", 2), ("b", -2), ("d", -2), ("e", -2)): ("never", "never", "never"),
            (("b", 5), ("d", -5)): ("always", "never", "always"), (("b", 1), ("e", -1)): ("open", "open", "open"),
            (("a", 1), ("b", -2)): ("open", "open", "open"), (("c", 3), ("g", -1)): ("never", "never", "never"),
            (("a", 45), ("b", -100)): ("open", "never", "open"),
            (("a", 55), ("b", -100)): ("always", "always", "never"),
            (("a", 1), ("all", -1), ("f", 1), ("g", 1)): ("always", "always", "never"),
            (("a", -1), ("all", 1), ("g", -1), ("h", -1)): ("always", "never", "always"),
        }
        for terms, told in cases.items():
            for word, answer in zip(WORDS, told):
                with self.subTest((terms, word)):
                    self.assertEqual(self.told(page, (terms, word)), answer)

    def test_at_random(self):
        chance = random.Random(91)
        seen = {}
        for _ in range(1200):
            page = self.counted(chance, told=chance.choice((0.3, 0.9)))
            statement = random_statement(chance, page)
            key = self.told(page, statement), statement[1]
            seen[key] = seen.get(key, 0) + 1
        self.assertEqual(len(seen), 9)
        self.assertGreater(min(seen.values()), 20, seen)

    def test_all_ends_and_terms_at_random(self):
        chance = random.Random(92)
        seen = set()
        for _ in range(400):
            page = self.counted(chance)
            parts = chance.sample(page.parts, min(len(page.parts), chance.randint(1, 4)))
            terms = tuple(sorted((part, chance.choice((-999, -2, -1, 1, 2, 999))) for part in parts))
            self.told(page, (terms, chance.choice(WORDS)))
            seen.add((len(page.ends), len(terms)))
        self.assertTrue({(ends, terms) for ends in range(1, 7) for terms in range(1, 5) if terms <= ends + 1} <= seen)

    def test_contraries_and_opposite_signs(self):
        chance = random.Random(93)
        swapped = {"always": "never", "never": "always", "open": "open"}
        for _ in range(300):
            page = self.counted(chance)
            statement = random_statement(chance, page)
            least, more, just = (self.told(page, with_word(statement, word)) for word in WORDS)
            less = self.told(page, other_signs(statement, "more"))
            most = self.told(page, other_signs(statement, "least"))
            self.assertEqual((swapped[least], swapped[more]), (less, most))
            self.assertEqual(self.told(page, other_signs(statement, "just")), just)
            self.assertEqual(just == "always", (least, most) == ("always", "always"))
            if "always" in (more, less) or "never" in (least, most):
                self.assertEqual(just, "never")
            if more == "always":
                self.assertEqual(least, "always")
            if least == "never":
                self.assertEqual(more, "never")

    def test_multiples_of_a_statement_tell_the_same(self):
        chance = random.Random(94)
        for _ in range(100):
            page = self.counted(chance)
            parts = sorted(chance.sample(page.parts, min(len(page.parts), 3)))
            word = chance.choice(WORDS)
            weights = [chance.choice((-3, -2, -1, 1, 2, 3)) for _ in parts]
            told = {
                self.told(page, (tuple((part, times * weight) for part, weight in zip(parts, weights)), word))
                for times in (1, 2, 7, 333)
            }
            self.assertEqual(len(told), 1)

    def test_equal_calls_return_equal_results(self):
        chance = random.Random(95)
        for _ in range(40):
            page = self.counted(chance)
            text, statement = page.text, random_statement(chance, page)
            found = judged(page, statement)
            self.assertEqual(judged(Page(text), statement), found)
            self.assertEqual(judged(page=page, statement=statement), found)
            self.assertEqual(judged(statement=statement, page=page), found)
            self.assertIs(shows_judged(value=found, statement=statement, page=page), True)
            self.assertEqual(page.text, text)


class RefusingTest(JudgedCase):
    def bad_statements(self):
        wrong = [
            (), ((), "more"), ((("yes", 1),),), ((("yes", 1),), "more", None), ("more", (("yes", 1),)),
            [(("yes", 1),), "more"], ([("yes", 1)], "more"), ((["yes", 1],), "more"), (("yes", 1), "more"),
            ((("yes", 1),), "Most"), ((("yes", 1),), "MORE"), ((("yes", 1),), "more "), ((("yes", 1),), ""),
            ((("yes", 1),), None), ((("yes", 1),), 0), ((("yes", 1),), True), ((("yes", 1),), ("more",)),
            ((("yes", 1),), "always"), ((("yes", 1),), "equal"), ((("yes", 1),), ["just"]),
            ((("yes", 0),), "more"), ((("yes", 1000),), "more"), ((("yes", -1000),), "more"),
            ((("yes", 999999999),), "more"), ((("yes", True),), "more"), ((("yes", False),), "more"),
            ((("yes", "1"),), "more"), ((("yes", None),), "more"), ((("yes", (1, 1)),), "more"), ((("yes",),), "more"),
            ((("yes", 1, 1),), "more"), (((1, "yes"),), "more"), ((("Yes", 1),), "more"), ((("nobody", 1),), "more"),
            ((("", 1),), "more"), (((None, 1),), "more"), (((True, 1),), "more"), (((("yes",), 1),), "more"),
            (((["yes"], 1),), "more"), ((("yes", 1), ("no", 1)), "more"), ((("no", 1), ("no", 1)), "more"),
            ((("no", 1), ("no", 2)), "more"), ((("no", 2), ("no", 1)), "more"),
            ((("no", 1), ("yes", 1), ("no", 1)), "more"), ((("all", 1), 5), "more"),
            ((("all", 1), ("no", 1), ("old", 1), ("open", 1), ("yes", 1)), "more"),
            ((("all", 1), ("no", 1), ("old", 1), ("open", 1), ("yes", 1), ("young", 1)), "just"),
            ((("no", 1), ("yes", 0)), "more"), ((("no", 1), None), "more"), ((("no", 1), ()), "more"),
            (((1, 1), ("no", 1)), "more"), ((("no", 1), (2, 1)), "more"), {"yes": 1}, "yes", 1,
        ]
        return wrong + any_values()

    def test_bad_statement(self):
        page = Page(EXAMPLE)
        for statement in self.bad_statements():
            self.refuses(BadStatement, statement, judged, page, statement)
            for value in (None, ("always", ()), judged(page, ((("yes", 1),), "more")), []):
                self.refuses(BadStatement, statement, shows_judged, page, statement, value)

    def test_bad_statement_is_told_ahead_of_no_table(self):
        page = Page(EXAMPLE).told("open", 27)
        for statement in self.bad_statements():
            self.refuses(BadStatement, statement, judged, page, statement)
            self.refuses(BadStatement, statement, shows_judged, page, statement, None)

    def test_values_of_any_kind_within_statements(self):
        page = Page(EXAMPLE)
        for value in any_values():
            for statement in (
                ((("yes", 1),), value), (((value, 1),), "more") if value not in ("all", "yes") else value,
                ((value,), "more"), (value, "more"), ((("all", 1), value), "more"), (value, value),
                value if is_kind(value, int) and value and abs(value) < 1000 else ((("yes", value),), "more"),
            ):
                self.refuses(BadStatement, statement, judged, page, statement)

    def test_statements(self):
        page = Page(EXAMPLE)
        for statement in (
            ((("yes", 999),), "more"), ((("yes", -999),), "least"),
            ((("all", 1), ("no", 1), ("old", 1), ("yes", 1)), "just"),
            ((("all", 1), ("young", -1)), "more"), ((("no", 1), ("old", 1)), "more"),
            ((("old", 2), ("open", 1)), "more"),
        ):
            self.told(page, statement)

    def test_no_table(self):
        chance = random.Random(96)
        many = 0
        while many < 60:
            page = any_page(chance)
            if possible(page)[0] == "table":
                continue
            many += 1
            for word in WORDS:
                statement = random_statement(chance, page, word)
                self.refuses(NoTable, None, judged, page, statement)
                for value in (None, ("always", ()), possible(page), ("never", (possible(page)[1],)), [], "open"):
                    self.refuses(NoTable, None, shows_judged, page, statement, value)

    def test_no_table_of_what_is_always_so(self):
        page = Page(EXAMPLE).told("open", 27)
        for terms in ((("all", 1),), (("all", -1), ("no", 1), ("open", 1), ("yes", 1)), (("no", -1), ("yes", 1))):
            for word in WORDS:
                self.refuses(NoTable, None, judged, page, (terms, word))

    def test_a_refusal_changes_nothing(self):
        page = Page(EXAMPLE)
        first = judged(page, ((("yes", 1),), "more"))
        for value in any_values():
            self.refuses(BadStatement, value, judged, page, value)
        self.assertEqual(judged(page, ((("yes", 1),), "more")), first)
        self.assertEqual(page.text, EXAMPLE)

    def test_by_name(self):
        self.refuses(BadStatement, 5, judged, statement=5, page=Page(EXAMPLE))
        self.refuses(BadStatement, 5, shows_judged, statement=5, value=None, page=Page(EXAMPLE))


class ShowsJudgedTest(JudgedCase):
    def same(self, page, statement, value):
        told = is_right(page, statement, value)
        self.assertIs(shows_judged(page, statement, value), told, (page.text, statement, value))
        return told

    def test_each_kind_of_result_for_each_kind_of_answer(self):
        chance = random.Random(97)
        seen = {}
        for _ in range(80):
            page = self.counted(chance)
            statements = [random_statement(chance, page) for _ in range(3)]
            statements += [with_word(statements[0], word) for word in WORDS]
            statements += [other_signs(statements[0], word) for word in WORDS]
            found = [judged(page, statement) for statement in statements]
            for statement, own in zip(statements, found):
                for value in found:
                    key = own[0], value[0], self.same(page, statement, value)
                    seen[key] = seen.get(key, 0) + 1
                for papers in ((), own[1], (own[1],), own[1:], own[1] + own[1]):
                    for word in ("always", "never", "open"):
                        self.same(page, statement, (word, papers))
        words = ("always", "never", "open")
        self.assertTrue({(own, other, False) for own in words for other in words} <= set(seen), seen)
        self.assertTrue({(own, own, True) for own in words} <= set(seen), seen)

    def test_bent_ones(self):
        chance = random.Random(98)
        seen = {}
        for _ in range(120):
            page = self.counted(chance, most_ends=4)
            statement = random_statement(chance, page)
            own = judged(page, statement)
            for value in bends(own):
                key = own[0], self.same(page, statement, value)
                seen[key] = seen.get(key, 0) + 1
        self.assertEqual(len(seen), 6)
        self.assertGreater(min(seen.values()), 3, seen)

    def test_other_counts(self):
        chance = random.Random(99)
        many = 0
        while many < 60:
            page = self.counted(chance, most=6, most_ends=3)
            statement = random_statement(chance, page)
            own = judged(page, statement)
            if own[0] != "open":
                continue
            many += 1
            for times in (2, 10 ** 40):
                self.assertTrue(self.same(page, statement, ("open",) + tuple(
                    tuple(times * count for count in counts) for counts in own[1:]
                )))
            self.assertFalse(self.same(page, statement, ("open", own[2], own[1])))
            self.assertFalse(self.same(page, statement, ("open", own[1], own[1])))
            self.assertFalse(self.same(page, statement, ("open", own[2], own[2])))
            for counts in small_tables(page, 5):
                self.same(page, statement, ("open", counts, own[2]))
                self.same(page, statement, ("open", own[1], counts))

    def test_other_papers(self):
        chance = random.Random(100)
        many = 0
        while many < 60:
            page = self.counted(chance)
            statement = random_statement(chance, page)
            own = judged(page, statement)
            if own[0] == "open":
                continue
            many += 1
            for times in (2, Fraction(1, 9), Fraction(10 ** 40, 3)):
                papers = tuple(plus(paper, times) for paper in own[1])
                self.assertTrue(self.same(page, statement, (own[0], papers)))
            self.assertFalse(self.same(page, statement, (own[0], list(own[1]))))
            self.assertFalse(self.same(page, statement, (own[0], own[1] + own[1])))
            self.assertFalse(self.same(page, statement, (own[0], own[1][1:])))
            self.assertFalse(self.same(page, statement, (own[0], own[1][0])))

    def test_papers_of_just(self):
        page = flat_page((10, "near"), ["none", None])
        statement = ((("a", 1),), "just")
        self.assertEqual(rows_of(page)[3:], (((1, 1), "more"), ((1, 0), "least"), ((-1, 0), "least")))
        one, other = ((5, (1, 1)), (6, (1, 1))), ((6, (1, 1)),)
        self.assertEqual(row_of(page, statement, "more", -1), ((-1, 0), "more"))
        for papers, told in (
            ((one, other), True), ((one, ((0, (1, 1)), (6, (1, 1)))), True), ((one, one), True), ((other, one), False),
            ((one,), False), ((other,), False), ((other, other), False), ((one, other, one), False), ((), False),
        ):
            self.assertIs(self.same(page, statement, ("always", papers)), told, papers)
            self.assertIs(self.same(page, statement, ("never", papers)), False)

    def test_the_row_of_just_stands_ahead_of_the_one_with_the_other_signs(self):
        page = flat_page((10, "near"), [3, None])
        statement = ((("a", 1), ("all", -1)), "just")
        self.assertEqual(rows_of(page)[4:], (((3, -1), "least"), ((-13, 7), "more")))
        self.assertEqual(row_of(page, statement, "least"), ((0, -1), "least"))
        self.assertTrue(self.same(page, statement, ("never", (((5, (1, 1)), (6, (7, 1))),))))
        self.assertFalse(self.same(page, statement, ("never", (((5, (1, 1)), (7, (7, 1))),))))
        self.assertFalse(self.same(page, statement, ("never", (((5, (1, 1)),),))))

    def test_values_of_any_kind(self):
        page = Page(EXAMPLE)
        for terms, word in (
            ((("no", -1), ("yes", 1)), "more"), ((("no", -1), ("young", 1)), "more"),
            ((("old", 5), ("open", -3)), "just"), ((("no", 1), ("yes", -1)), "just"),
            ((("all", -1), ("no", 1), ("open", 1), ("yes", 1)), "just"),
        ):
            statement = (terms, word)
            own = judged(page, statement)
            for value in any_values():
                self.assertIs(shows_judged(page, statement, value), False)
                for offered in (
                    ("always", value), ("never", value), ("always", (value,)), ("never", (value,)), (value, own[1]),
                    ("open", value, value), ("open", own[1], value), ("open", value, own[-1]), (value,) + own[1:],
                    own + (value,), ("always", (value, value)),
                ):
                    self.same(page, statement, offered)


del JudgedCase

if __name__ == "__main__":
    unittest.main()
