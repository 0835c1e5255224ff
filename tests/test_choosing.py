"""Point 13: the cheapest changes."""

import random
import unittest

from anyasked.choosing import cheapest, shows_cheapest
from anyasked.errors import BadOffers, BadWishes
from anyasked.holding import judged
from anyasked.pages import Page
from tests.anyvalues import Refusals, any_values
from tests.choices import all_choices, changed_text, counting, is_right, price_of
from tests.countedpages import any_page, counted_page, moved_page
from tests.pagetexts import EXAMPLE, random_share
from tests.reckoning import bends, is_kind
from tests.statements import differing_statement, random_statement
from tests.test_papers import plus

SURE = ((("old", 5), ("open", -3)), "more")
WORDS = ("always", "never", "open")
OFFER = (5, "part open of all is 24", 2)


def random_offer(chance, page):
    """An offer of a line of a page: other units, another share, none, a part more, nothing, or what is no line."""
    lines = page.text.split("\n")
    line = chance.choice((1, *range(3, len(lines) + 1)))
    price = chance.randint(1, 5)
    kind = chance.randrange(12)
    if line == 1:
        return 1, f"in {chance.choice((2, 10, 50, 99, 100))} {chance.choice(('near', 'even', 'down', 'up'))}", price
    part = page.parts[line - 2]
    if kind == 0:
        return line, "", price
    if kind == 1:
        own = lines[line - 1]
        return line, chance.choice(("part", "told", own + " ", "\n", lines[0], own + "\n")), price
    if kind == 2:
        return line, f"{lines[line - 1]}\npart more of {chance.choice(page.parts)}", price
    if kind == 3:
        return line, chance.choice((f"part other of {page[part][0]}", lines[line - 1])), price
    share = random_share(chance, page.units[0])
    if is_kind(page[part][1], int) and chance.random() < 0.5:
        share = min(page.units[0], max(0, page[part][1] + chance.choice((-1, 1))))
    tell = chance.choice((page.told, page.told, page.told_far))
    return line, tell(part, share).text.split("\n")[line - 1], price


def random_offers(chance, page):
    while True:
        offers = {random_offer(chance, page) for _ in range(chance.randint(1, 4))}
        if chance.random() < 0.2:
            offers.add(random_offer(chance, page)[:2] + (chance.randint(1, 9),))
        if len(offers) <= 4:
            return tuple(sorted(offers))


def random_wishes(chance, page):
    wishes = []
    for _ in range(chance.randint(1, 3)):
        make = chance.choice((random_statement, differing_statement))
        wishes.append((make(chance, page), chance.choice(WORDS)))
    if chance.random() < 0.1:
        wishes[0] = (((("more", 1),), "least"), wishes[0][1])
    return tuple(wishes)


class CheapestCase(unittest.TestCase, Refusals):
    def told(self, page, offers, wishes):
        """What cheapest tells, which has to be right."""
        text = page.text
        found = cheapest(page, offers, wishes)
        self.assertTrue(is_right(page, offers, wishes, found), (text, offers, wishes, found))
        self.assertIs(shows_cheapest(page, offers, wishes, found), True)
        for choice, number, one in found[-1]:
            for before in range(number):
                statement, word = wishes[before]
                changed = Page(changed_text(text, choice))
                self.assertEqual(judged(changed, statement)[0], word, "not the first wish that does not come true")
        self.assertEqual(page.text, text)
        return found

    def asked(self, chance):
        """A page, offers and wishes."""
        page = counted_page(chance, told=chance.choice((0.2, 0.5)))[0]
        if chance.random() < 0.2:
            page = chance.choice((any_page(chance), moved_page(chance, page)))
        offers, wishes = random_offers(chance, page), random_wishes(chance, page)
        choices = counting(page, offers, wishes)
        if choices and chance.random() < 0.7:
            # What comes true by one of the choices, rather by one of which other words are told than by all ahead.
            told = [tuple(judged(changed, statement)[0] for statement, _ in wishes) for _, changed in choices]
            news = [words for at, words in enumerate(told) if words not in told[:at]]
            wishes = tuple((statement, word) for (statement, _), word in zip(wishes, news[-1]))
        return page, offers, wishes


class CheapestTest(CheapestCase):
    def test_the_documents_example(self):
        page = Page(EXAMPLE)
        found = self.told(page, (OFFER,), ((SURE, "always"),))
        self.assertEqual(found[:3], ("choice", 2, (OFFER,)))
        self.assertEqual((found[3][0][0], [reason[:2] for reason in found[4]]), ("always", [((), 0)]))
        self.assertEqual(found[4][0][2][0], "open")

    def test_nothing_to_change(self):
        page = Page(EXAMPLE)
        wishes = ((SURE, "open"), (((("no", -1), ("yes", 1)), "more"), "always"))
        self.assertEqual(self.told(page, (OFFER,), wishes)[:3], ("choice", 0, ()))
        self.assertEqual(self.told(page, (OFFER,), wishes)[4], ())

    def test_by_price_then_by_how_many_then_as_tuples(self):
        page = Page("in 10 near\nasked all\npart a of all\npart b of all\npart c of all")
        one, other, both = ((4, "part b of all is 4", 1), (5, "part c of all is 5", 1), (3, "part a of all is 1", 2))
        wishes = ((((("a", 10), ("all", -3)), "least"), "never"),)
        self.assertEqual(self.told(page, tuple(sorted((one, other, both))), wishes)[:3], ("choice", 2, (both,)))
        dear = (3, "part a of all is 1", 3)
        self.assertEqual(self.told(page, tuple(sorted((one, other, dear))), wishes)[:3], ("choice", 2, (one, other)))
        again = (3, "part a of all is 2", 2)
        found = self.told(page, tuple(sorted((one, other, both, again))), wishes)
        self.assertEqual(found[:3], ("choice", 2, (both,)))
        self.assertEqual([reason[0] for reason in found[4]], [(), (one,), (other,)])
        found = self.told(page, tuple(sorted((one, again))), wishes)
        self.assertEqual(found[2], (again,))
        never = ((((("a", 1),), "more"), "never"),)
        found = self.told(page, tuple(sorted((one, other, both, again))), never)
        self.assertEqual((found[0], [reason[0] for reason in found[1]]), ("none", [
            (), (one,), (other,), (both,), (again,), (one, other), (both, one), (both, other), (again, one),
            (again, other), (both, one, other), (again, one, other),
        ][:len(found[1])]))
        self.assertEqual(len(found[1]), len(counting(page, tuple(sorted((one, other, both, again))), never)))

    def test_all_lines_are_replaced_at_once_by_their_numbers_on_the_page_as_it_is(self):
        page = Page("in 10 near\nasked all\npart a of all\npart b of all\npart c of all")
        offers = (
            (3, "", 1), (4, "part b of all\npart d of b is 3\npart e of b", 1), (5, "part c of all is none", 1),
        )
        wishes = ((((("b", 1), ("all", -1)), "just"), "always"),)
        wishes = (((tuple(sorted(wishes[0][0][0])), "just"), "always"), (((("d", 1),), "more"), "always"))
        found = self.told(page, offers, wishes)
        self.assertEqual(found[:3], ("choice", 3, offers))
        # Of those with d in them, that without a change of c, and that with a left in it.
        self.assertEqual([reason[:2] for reason in found[4]], [
            ((offers[1],), 0), (offers[:2], 0), (offers[1:], 0),
        ])

    def test_what_does_not_count(self):
        page = Page("in 10 near\nasked all\npart a of all is 5\npart b of all")
        wishes = ((((("b", 1),), "more"), "never"),)
        texts = (
            "part b of all is 7", "part b of all is none", "part c of all", "part b of all is 11", "part b of b",
            "told", "\n", "part b of all\n", " part b of all", "part a of all", "asked b", "in 10 near", "part b of c",
        )
        for text in texts:
            with self.subTest(text):
                found = self.told(page, ((4, text, 1),), wishes)
                self.assertEqual(found[0], "none")
                self.assertEqual([reason[0] for reason in found[1]], [()])
        self.assertEqual(self.told(page, ((4, "", 1),), wishes)[1][0][0], ())
        self.assertEqual(len(self.told(page, ((4, "", 1),), wishes)[1]), 1)
        # The page itself does not count, nor what leaves all out.
        never = page.told("b", 7)
        found = self.told(never, ((4, "part b of all is 5", 1),), wishes)
        self.assertEqual([reason[0] for reason in found[1]], [((4, "part b of all is 5", 1),)])
        self.assertEqual(self.told(never, ((1, "", 1),), wishes), ("none", ()))
        everything = tuple((line, "", 1) for line in range(1, 5))
        self.assertEqual([reason[0] for reason in self.told(page, everything, wishes)[1]], [(), (everything[2],)])
        self.assertEqual(self.told(page, everything, ((((("x", 1),), "more"), "open"),))[1], ())

    def test_names_that_the_page_has_not(self):
        page = Page(EXAMPLE)
        more = (5, "part open of all\npart extra of open is 50\npart rest of open", 3)
        wishes = ((((("extra", 1),), "more"), "always"),)
        found = self.told(page, (more, OFFER), wishes)
        self.assertEqual((found[:3], found[4]), (("choice", 3, (more,)), ()))
        wishes = (wishes[0], (((("extra", 1), ("rest", -1)), "just"), "open"), wishes[0])
        self.assertEqual(self.told(page, (more, OFFER), wishes)[:3], ("choice", 3, (more,)))
        self.assertEqual(self.told(page, (OFFER,), wishes), ("none", ()))
        renamed = (2, "asked everyone", 1)
        self.assertEqual(self.told(page, (renamed, OFFER), ((((("everyone", 1),), "more"), "always"),)), ("none", ()))

    def test_two_offers_of_one_line_and_other_units(self):
        page = Page("in 10 near\nasked all\npart a of all is 5\npart b of all")
        wishes = ((((("a", 1), ("b", -1)), "just"), "always"),)
        offers = ((1, "in 2 down", 3), (3, "part a of all is 1", 1), (4, "part b of all is 1", 1))
        found = self.told(page, offers, wishes)
        self.assertEqual(found[:3], ("choice", 5, offers))
        offers = ((3, "part a of all is 2", 1), (3, "part a of all is 4", 1), (3, "part a of all is 4", 2))
        wishes = ((((("a", 2), ("all", -1)), "least"), "never"),)
        found = self.told(page, offers, wishes)
        self.assertEqual((found[2], [reason[0] for reason in found[4]]), ((offers[0],), [()]))
        found = self.told(page, offers, ((wishes[0][0], "open"),))
        self.assertEqual(found[2], ())
        found = self.told(page, offers, ((wishes[0][0], "always"),))
        self.assertEqual([reason[0] for reason in found[1]], [(), offers[:1], offers[1:2], offers[2:]])

    def test_the_first_wish_that_does_not_come_true(self):
        page = Page(EXAMPLE)
        true, false = (SURE, "open"), (SURE, "never")
        for wishes, number in (((false,), 0), ((true, false), 1), ((true, true, false), 2), ((false, true, false), 0)):
            found = self.told(page, (OFFER,), wishes)
            self.assertEqual((found[0], found[1][0][1]), ("none", number))
            self.assertEqual(found[1][0][2], judged(page, SURE))

    def test_told_as_judged_tells_of_the_changed_page(self):
        page = Page(EXAMPLE)
        wishes = ((SURE, "always"), (((("no", -1), ("yes", 1)), "more"), "always"), (SURE, "always"))
        found = self.told(page, (OFFER,), wishes)
        changed = page.told("open", 24)
        self.assertEqual(found[3], tuple(judged(changed, statement) for statement, _ in wishes))

    def test_at_random(self):
        chance = random.Random(151)
        seen = {}
        for _ in range(800):
            page, offers, wishes = self.asked(chance)
            found = self.told(page, offers, wishes)
            key = found[0], len(found[2]) if found[0] == "choice" else min(len(found[1]), 3)
            seen[key] = seen.get(key, 0) + 1
        self.assertTrue({("choice", 0), ("choice", 1), ("choice", 2), ("none", 0), ("none", 1)} <= set(seen), seen)
        self.assertGreater(min(seen["choice", 1], seen["none", 2]), 20, seen)
        self.assertGreater(seen["choice", 2], 5, seen)

    def test_own_sequence(self):
        offers = ((3, "x", 1), (3, "y", 1), (4, "x", 1), (5, "x", 2))
        found = all_choices(offers)
        self.assertEqual(found[:5], [(), offers[:1], offers[1:2], offers[2:3], offers[3:]])
        self.assertEqual([price_of(choice) for choice in found], sorted(price_of(choice) for choice in found))
        self.assertEqual(len(found), 12)

    def test_equal_calls_return_equal_results_by_position_and_by_name(self):
        chance = random.Random(152)
        for _ in range(20):
            page, offers, wishes = self.asked(chance)
            found = cheapest(page, offers, wishes)
            self.assertEqual(cheapest(Page(page.text), offers, wishes), found)
            self.assertEqual(cheapest(wishes=wishes, offers=offers, page=page), found)
            self.assertIs(shows_cheapest(value=found, wishes=wishes, offers=offers, page=page), True)


class RefusingTest(CheapestCase):
    def bad_offers(self):
        two, three = (4, "", 1), (3, "", 1)
        wrong = [
            (), [OFFER], (list(OFFER),), OFFER, (OFFER, OFFER), (OFFER, two), (two, three), (OFFER, two, three),
            ((2, "", 1), three, two, OFFER, (6, "", 1)), ((3, "", 1), (3, "", 2), (3, "", 3), (3, "", 4), (3, "", 5)),
            ((0, "", 1),), ((-1, "", 1),), ((8, "", 1),), ((99, "", 1),), ((999999999, "", 1),), ((True, "", 1),),
            (("1", "", 1),), ((None, "", 1),), ((False, "", 1),), (((1,), "", 1),),
            ((3, "", 0),), ((3, "", 10),), ((3, "", -1),), ((3, "", True),), ((3, "", False),), ((3, "", "1"),),
            ((3, "", None),), ((3, "", (1,)),), ((3, None, 1),), ((3, 5, 1),), ((3, [""], 1),), ((3, ("",), 1),),
            ((3, True, 1),), ((3, ""),), ((3, "", 1, 1),), ((),), (None,), ((three,),), {three: 1}, "abc", 3, None,
            (three, None), (None, three), (three, (4, "", 10)), (three, (4, 4, 4)), ((3, "b", 1), (3, "a", 1)),
            ((3, "a", 2), (3, "a", 1)), (three, [4, "", 1]),
        ]
        return wrong + any_values() + [(value,) for value in any_values()]

    def bad_wishes(self):
        wish = (SURE, "always")
        terms = ((("a", 1), ("b", 1), ("c", 1), ("d", 1), ("e", 1)), "more")
        wrong = [
            (), [wish], wish, (list(wish),), (wish,) * 4, ((SURE, "just"),), ((SURE, "ALWAYS"),), ((SURE, "table"),),
            ((SURE, None),), ((SURE, True),), ((SURE, ("always",)),), ((SURE,),), ((SURE, "always", 1),),
            (("always", SURE),), True,
            (wish, None), (None,), ((),), ((((), "more"), "open"),), ((terms, "open"),), {wish: 1}, "always", None, 0,
        ]
        statements = [
            ((("old", 5), ("open", -3)), "most"), ((("open", -3), ("old", 5)), "more"), ((("old", 0),), "more"),
            ((("old", 1000),), "more"), ((("old", True),), "more"), ((("Old", 1),), "more"), ((("", 1),), "more"),
            ((("oldoldold", 1),), "more"), (((1, 1),), "more"), ((("old", 1), ("old", 1)), "more"), None, "x",
            ((["old", 1],), "more"), ((("old", 1),), "more", 0), ([("old", 1)], "more"), (("old", 1), "more"),
            [(("old", 1),), "more"],
            ((("old", "1"),), "more"), ((("a b", 1),), "more"), (((None, 1),), "more"), ((("a1", 1),), "just"),
        ]
        return wrong + [((statement, "open"),) for statement in statements] + any_values() + [
            (wish, value) for value in any_values()
        ]

    def test_bad_offers(self):
        for page in (Page(EXAMPLE), Page(EXAMPLE).told("open", 27)):
            for offers in self.bad_offers():
                self.refuses(BadOffers, offers, cheapest, page, offers, ((SURE, "always"),))
                self.refuses(BadOffers, offers, shows_cheapest, page, offers, ((SURE, "always"),), ("none", ()))

    def test_bad_wishes(self):
        for page in (Page(EXAMPLE), Page(EXAMPLE).told("open", 27)):
            for wishes in self.bad_wishes():
                self.refuses(BadWishes, wishes, cheapest, page, (OFFER,), wishes)
                self.refuses(BadWishes, wishes, shows_cheapest, page, (OFFER,), wishes, ("none", ()))

    def test_both_wrong(self):
        page = Page(EXAMPLE)
        for offers in self.bad_offers()[:20]:
            for wishes in self.bad_wishes()[:20]:
                self.refuses(BadOffers, offers, cheapest, page, offers, wishes)
                self.refuses(BadOffers, offers, shows_cheapest, page, offers, wishes, None)

    def test_by_name(self):
        page = Page(EXAMPLE)
        self.refuses(BadOffers, 5, cheapest, wishes=6, offers=5, page=page)
        self.refuses(BadWishes, 6, cheapest, wishes=6, offers=(OFFER,), page=page)
        self.refuses(BadWishes, 6, shows_cheapest, value=None, wishes=6, offers=(OFFER,), page=page)

    def test_what_is_let(self):
        page = Page(EXAMPLE)
        for offers in (
            ((1, "", 9),), ((7, "", 1),), ((1, "x", 1), (2, "y", 2), (3, "z", 3), (7, "w", 9)),
            ((3, "", 1), (3, "", 2), (3, "a\nb", 1), (3, "c", 1)), ((5, page.text, 4),),
        ):
            self.told(page, offers, ((SURE, "always"),))
        for wishes in (
            ((SURE, "open"),) * 3, ((SURE, "always"), (SURE, "never")), ((((("nobody", -999),), "just"), "never"),),
            ((((("a", 1), ("b", 1), ("c", 1), ("d", 999)), "least"), "open"),),
        ):
            self.told(page, (OFFER,), wishes)


class ShowsCheapestTest(CheapestCase):
    def same(self, page, offers, wishes, value):
        told = is_right(page, offers, wishes, value)
        self.assertIs(shows_cheapest(page, offers, wishes, value), told, (page.text, offers, wishes, value))
        return told

    def other_told(self, found):
        """What is told of a statement, with the weights of papers, or the counts, three times as great."""
        if found[0] == "open":
            return ("open",) + tuple(tuple(3 * many for many in counts) for counts in found[1:])
        return found[0], tuple(plus(paper, 3) for paper in found[1])

    def test_other_reasons_counts_and_papers(self):
        chance = random.Random(153)
        others = 0
        for _ in range(120):
            page, offers, wishes = self.asked(chance)
            own = cheapest(page, offers, wishes)
            reasons = []
            for choice, _, _ in own[-1]:
                changed = Page(changed_text(page.text, choice))
                told = [judged(changed, statement) for statement, _ in wishes]
                missed = [at for at, found in enumerate(told) if found[0] != wishes[at][1]]
                others += len(missed) > 1
                reasons.append((choice, missed[-1], self.other_told(told[missed[-1]])))
                for at in range(len(wishes)):
                    changed_reasons = own[-1][:len(reasons) - 1] + ((choice, at, told[at]),) + own[-1][len(reasons):]
                    self.assertIs(self.same(page, offers, wishes, own[:-1] + (changed_reasons,)), at in missed)
            self.assertTrue(self.same(page, offers, wishes, own[:-1] + (tuple(reasons),)))
            if own[0] == "choice":
                told = tuple(self.other_told(found) for found in own[3])
                self.assertTrue(self.same(page, offers, wishes, own[:3] + (told, tuple(reasons))))
        self.assertGreater(others, 20)

    def test_a_reason_less_more_or_exchanged(self):
        chance = random.Random(154)
        many = 0
        for _ in range(250):
            page, offers, wishes = self.asked(chance)
            own = cheapest(page, offers, wishes)
            reasons = own[-1]
            for at in range(len(reasons)):
                many += 1
                for changed in (reasons[:at] + reasons[at + 1:], reasons[:at + 1] + reasons[at:], reasons[:at]):
                    self.assertFalse(self.same(page, offers, wishes, own[:-1] + (changed,)))
                choice, number, found = reasons[at]
                for other in (len(wishes), -1, True, None):
                    changed = reasons[:at] + ((choice, other, found),) + reasons[at + 1:]
                    self.same(page, offers, wishes, own[:-1] + (changed,))
            self.assertFalse(self.same(page, offers, wishes, own[:-1] + (list(reasons),)))
            self.assertFalse(self.same(page, offers, wishes, ("none", reasons)) and own[0] == "choice")
            if own[0] == "none":
                self.assertFalse(self.same(page, offers, wishes, ("choice", 0, (), (), ())))
                self.assertFalse(self.same(page, offers, wishes, ("choice", 0, (), (), reasons)))
        self.assertGreater(many, 100)

    def test_a_choice_by_which_some_wish_does_not_come_true(self):
        chance = random.Random(156)
        many = 0
        for _ in range(150):
            page, offers, wishes = self.asked(chance)
            own = cheapest(page, offers, wishes)
            for at, (choice, _, _) in enumerate(own[-1]):
                changed = Page(changed_text(page.text, choice))
                told = tuple(judged(changed, statement) for statement, _ in wishes)
                value = ("choice", price_of(choice), choice, told, own[-1][:at])
                self.assertFalse(self.same(page, offers, wishes, value))
                many += 1
        self.assertGreater(many, 50)

    def test_a_dearer_choice_is_not_right(self):
        page = Page(EXAMPLE)
        dear = (5, "part open of all is 24", 3)
        wishes = ((SURE, "always"),)
        own = cheapest(page, (OFFER,), wishes)
        other = cheapest(page, (dear,), wishes)
        self.assertEqual((own[:3], other[:3]), (("choice", 2, (OFFER,)), ("choice", 3, (dear,))))
        offers = (OFFER, dear)
        self.assertTrue(self.same(page, offers, wishes, own))
        self.assertFalse(self.same(page, offers, wishes, other))
        reasons = own[4] + (((OFFER,), 0, own[3][0]),)
        self.assertFalse(self.same(page, offers, wishes, other[:4] + (reasons,)))
        self.assertFalse(self.same(page, (OFFER,), wishes, ("none", own[4])))
        self.assertFalse(self.same(page, (OFFER,), wishes, own[:1] + (3,) + own[2:]))

    def test_true_in_the_place_of_1(self):
        page = Page(EXAMPLE)
        offer = (5, "part open of all is 24", 1)
        wishes = ((SURE, "open"), (SURE, "always"))[1:]
        own = cheapest(page, (offer,), wishes)
        self.assertEqual(own[:3], ("choice", 1, (offer,)))
        self.assertFalse(self.same(page, (offer,), wishes, own[:1] + (True,) + own[2:]))
        self.assertFalse(self.same(page, (offer,), wishes, own[:2] + (((offer[:2] + (True,)),),) + own[3:]))
        self.assertFalse(self.same(page, (offer,), wishes, own[:2] + ((list(offer),),) + own[3:]))
        self.assertFalse(self.same(page, (offer,), wishes, own[:2] + ([offer],) + own[3:]))
        self.assertFalse(self.same(page, (offer,), wishes, own[:4] + ((((), False, own[4][0][2]),),)))

    def test_bent_ones(self):
        chance = random.Random(155)
        seen = {}
        many = 0
        while many < 12:
            page, offers, wishes = self.asked(chance)
            own = cheapest(page, offers, wishes)
            if len(str(own)) > 250:
                continue
            many += 1
            for value in bends(own):
                key = own[0], self.same(page, offers, wishes, value)
                seen[key] = seen.get(key, 0) + 1
        self.assertEqual(len(seen), 4)
        self.assertGreater(min(seen.values()), 5, seen)

    def test_values_of_any_kind(self):
        page = Page(EXAMPLE)
        for offers, wishes in (((OFFER,), ((SURE, "always"),)), ((OFFER,), ((SURE, "never"),))):
            own = cheapest(page, offers, wishes)
            for value in any_values():
                self.assertIs(shows_cheapest(page, offers, wishes, value), False)
                offered = [own + (value,), (value,) + own[1:], ("none", value), ("none", (value,)), (value,)]
                offered += [("choice", 2, (OFFER,), value, value), ("choice", value, value, value, value)]
                for at in range(len(own)):
                    offered.append(own[:at] + (value,) + own[at + 1:])
                    offered.append(own[:at] + ((value,),) + own[at + 1:])
                for at in range(3):
                    reason = own[-1][0]
                    offered.append(own[:-1] + ((reason[:at] + (value,) + reason[at + 1:],) + own[-1][1:],))
                for one in offered:
                    self.same(page, offers, wishes, one)


del CheapestCase

if __name__ == "__main__":
    unittest.main()
