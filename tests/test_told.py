"""Point 5: told and told_far."""

import random
import unittest

from anyasked.errors import BadShare, NoAbove, NoPart
from anyasked.pages import Page
from tests.anyvalues import Refusals, any_values, is_plain_integer
from tests.pagetexts import EXAMPLE, random_page, random_share, text_of


def wrong_shares(base):
    """Values that are neither a share by units of this base nor None."""
    more = [-1, base + 1, "someone", "Some", "None", "none ", "0", str(base), ("none",), ["some"], (0,), [0], "-"]
    return more + [
        value
        for value in any_values()
        if not (is_plain_integer(value) and 0 <= value <= base) and value not in ("none", "some", None)
    ]


class ToldTest(unittest.TestCase, Refusals):
    def setUp(self):
        self.page = Page(EXAMPLE)

    def tearDown(self):
        # Whatever was done with it, the page itself stays as it was.
        self.assertEqual(self.page.text, EXAMPLE)
        self.assertEqual([self.page[part] for part in self.page.parts], [
            (None, None, None), ("all", 40, None), ("all", 35, None), ("all", None, None), ("yes", 62, None),
            ("yes", None, None),
        ])

    def line(self, page, part):
        """The line of a part of the page; all others are as they were."""
        at = 1 + self.page.parts.index(part)
        lines, before = page.text.split("\n"), EXAMPLE.split("\n")
        self.assertEqual(lines[:at] + lines[at + 1:], before[:at] + before[at + 1:])
        return lines[at]

    def test_the_documents_example(self):
        told = self.page.told("open", "some").told_far("old", 16).text.split("\n")[4:]
        self.assertEqual(told, ["part open of all is some", "part young of yes is 62", "part old of yes all 16"])

    def test_lines(self):
        for share in (0, 1, 62, 100, "none", "some"):
            self.assertEqual(self.line(self.page.told("old", share), "old"), f"part old of yes is {share}")
            self.assertEqual(self.line(self.page.told_far("old", share), "old"), f"part old of yes all {share}")
            self.assertEqual(self.line(self.page.told("young", share), "young"), f"part young of yes is {share}")
            told = self.page.told_far("young", share)
            self.assertEqual(self.line(told, "young"), f"part young of yes is 62 all {share}")
            self.assertEqual(self.line(self.page.told("yes", share), "yes"), f"part yes of all is {share}")
            self.assertEqual(self.line(self.page.told_far("open", share), "open"), f"part open of all all {share}")

    def test_none(self):
        self.assertEqual(self.line(self.page.told("young", None), "young"), "part young of yes")
        self.assertEqual(self.line(self.page.told_far("young", None), "young"), "part young of yes is 62")
        self.assertEqual(self.page.told_far("young", None), self.page)
        self.assertEqual(self.page.told("open", None), self.page)
        both = self.page.told_far("young", 25)
        self.assertEqual(self.line(both.told("young", None), "young"), "part young of yes all 25")
        self.assertEqual(self.line(both.told_far("young", None), "young"), "part young of yes is 62")
        self.assertEqual(both.told("young", None).told_far("young", None), self.page.told("young", None))

    def test_what_is_told_already(self):
        self.assertEqual(self.page.told("yes", 40), self.page)
        self.assertEqual(self.page.told("yes", 41).told("yes", 40), self.page)

    def test_what_the_new_page_tells(self):
        told = self.page.told("open", 24).told_far("young", "some")
        self.assertIs(told.__class__, Page)
        self.assertEqual((told["open"], told["young"]), (("all", 24, None), ("yes", 62, "some")))
        self.assertEqual((told["yes"], told["all"]), (("all", 40, None), (None, None, None)))
        self.assertEqual((told.parts, told.ends, told.units), (self.page.parts, self.page.ends, self.page.units))
        self.assertEqual((told.beneath("yes"), told.ends_of("all")), (("young", "old"), self.page.ends))
        self.assertIs(told == self.page, False)

    def test_the_other_share_stays(self):
        page = self.page.told_far("yes", 39)
        self.assertEqual(page.told("yes", 41)["yes"], ("all", 41, 39))
        self.assertEqual(page.told_far("yes", "none")["yes"], ("all", 40, "none"))

    def test_no_part(self):
        for call in (self.page.told, self.page.told_far):
            for value in any_values() + ["nobody", ("yes",), ["yes"]]:
                if value not in ("all", "yes"):
                    for share in (40, None, "some"):
                        self.refuses(NoPart, value, call, value, share)

    def test_no_above(self):
        first = "".join(["a", "ll"])
        for call in (self.page.told, self.page.told_far):
            for share in (40, None, "some", "none", 0, 100):
                self.refuses(NoAbove, first, call, first, share)

    def test_bad_share(self):
        for part in ("yes", "open", "old"):
            for share in wrong_shares(100):
                self.refuses(BadShare, share, self.page.told, part, share)
                self.refuses(BadShare, share, self.page.told_far, part, share)

    def test_bad_share_by_the_units(self):
        for base in (2, 10, 99):
            page = Page(f"in {base} up\nasked all\npart yes of all is {base}")
            self.assertEqual(page.told("yes", 0)["yes"], ("all", 0, None))
            self.assertEqual(page.told_far("yes", base)["yes"], ("all", base, base))
            for share in wrong_shares(base):
                self.refuses(BadShare, share, page.told, "yes", share)
                self.refuses(BadShare, share, page.told_far, "yes", share)

    def test_the_error_that_is_due_first(self):
        for call in (self.page.told, self.page.told_far):
            for share in (-1, 101, True, [], (), {}, "any", "yes"):
                for part in ("nobody", 3, True, None, [], {}, "", self.page):
                    self.refuses(NoPart, part, call, part, share)
                self.refuses(NoAbove, "all", call, "all", share)
                self.refuses(BadShare, share, call, "yes", share)

    def test_by_name(self):
        self.assertEqual(self.page.told(part="open", share=24), self.page.told("open", 24))
        self.assertEqual(self.page.told(share=24, part="open"), self.page.told("open", 24))
        self.assertEqual(self.page.told_far("open", share=24), self.page.told_far("open", 24))
        self.assertEqual(self.page.told_far(share="some", part="old"), self.page.told_far("old", "some"))
        self.refuses(BadShare, 101, self.page.told, share=101, part="open")
        self.refuses(NoAbove, "all", self.page.told_far, share=101, part="all")

    def test_equal_calls_return_equal_results(self):
        self.assertEqual(self.page.told("open", 24), self.page.told("open", 24))
        self.assertEqual(self.page.told_far("open", 24), self.page.told_far("open", 24))
        self.assertIs(self.page.told("open", 24) == self.page.told_far("open", 24), False)

    def test_at_random(self):
        chance = random.Random(13)
        for _ in range(400):
            units, lines = random_page(chance)
            page = Page(text_of(units, lines))
            told, deeds = page, {}
            for _ in range(chance.randint(1, 8)):
                part = chance.choice(page.parts[1:])
                share = random_share(chance, units[0])
                above, near, far = lines[part]
                if chance.random() < 0.5:
                    told, lines[part] = told.told(part, share), (above, share, far)
                    deeds["told", part] = share
                else:
                    told, lines[part] = told.told_far(part, share), (above, near, share)
                    deeds["told_far", part] = share
                self.assertEqual(told.text, text_of(units, lines))
                self.assertEqual([told[name] for name in told.parts], list(lines.values()))
                self.assertEqual(Page(told.text), told)
            self.in_another_sequence(chance, page, deeds, told)

    def in_another_sequence(self, chance, page, deeds, told):
        """The same shares, told in another sequence, give an equal page."""
        text = page.text
        for _ in range(3):
            other, keys = page, list(deeds)
            chance.shuffle(keys)
            for way, part in keys:
                other = getattr(other, way)(part, deeds[way, part])
            self.assertEqual(other, told)
        self.assertEqual(page.text, text)


if __name__ == "__main__":
    unittest.main()
