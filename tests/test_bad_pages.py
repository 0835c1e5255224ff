"""Point 5: BadPage, with the number of the first line that cannot stand there."""

import random
import unittest

from anyasked.errors import BadPage
from anyasked.pages import Page
from tests.anyvalues import Refusals, any_values
from tests.pagetexts import EXAMPLE, HOWS, first_bad_line, random_page, text_of

IN, ASKED, PART = "in 100 near", "asked all", "part yes of all is 40"


class BadPageTest(unittest.TestCase, Refusals):
    def bad(self, number, *lines):
        """These lines are no page, by the line with this number."""
        self.refuses_line(BadPage, number, Page, "\n".join(lines))

    def test_no_string(self):
        for value in any_values() + [[IN, ASKED, PART], (IN, ASKED, PART), {IN: ASKED}, Page(EXAMPLE), [EXAMPLE]]:
            if not isinstance(value, str):
                self.refuses_line(BadPage, 0, Page, value)

    def test_strings_that_are_no_pages(self):
        for value in any_values():
            if isinstance(value, str) and value != "in 100 near":
                self.refuses_line(BadPage, 1, Page, value)

    def test_the_empty_string_has_one_line(self):
        self.bad(1, "")
        self.bad(1, "", "")
        self.bad(1, " ")

    def test_a_line_missing_at_the_end(self):
        self.bad(2, IN)
        self.bad(3, IN, ASKED)
        self.assertEqual(Page("\n".join([IN, ASKED, PART])).parts, ("all", "yes"))

    def test_an_empty_line(self):
        self.bad(2, IN, "")
        self.bad(3, IN, ASKED, "")
        self.bad(4, IN, ASKED, PART, "")
        self.bad(4, IN, ASKED, PART, "", "")
        self.bad(1, "", IN, ASKED, PART)
        self.bad(2, IN, "", ASKED, PART)
        self.bad(3, IN, ASKED, "", PART)
        self.bad(4, IN, ASKED, PART, "", "part no of all")
        self.bad(4, IN, ASKED, PART, " ")

    def test_an_empty_line_behind_a_full_page(self):
        rows = [f"part {name} of {above}" for name, above in ("ba", "ca", "da", "eb", "fb", "gc", "hc", "id", "jd")]
        Page("\n".join([IN, "asked a"] + rows))
        self.bad(12, IN, "asked a", *rows, "")

    def test_lines_at_a_wrong_place(self):
        self.bad(1, ASKED, IN, PART)
        self.bad(1, ASKED, PART)
        self.bad(1, PART, IN, ASKED)
        self.bad(1, PART)
        self.bad(2, IN, PART, ASKED)
        self.bad(2, IN, PART)
        self.bad(2, IN, IN, ASKED, PART)
        self.bad(3, IN, ASKED, ASKED, PART)
        self.bad(3, IN, ASKED, "asked other", PART)
        self.bad(3, IN, ASKED, IN, PART)
        self.bad(4, IN, ASKED, PART, IN)
        self.bad(4, IN, ASKED, PART, "asked other")
        self.bad(4, IN, ASKED, PART, PART)
        self.bad(4, IN, ASKED, PART, "told")

    def test_line_of_units(self):
        wrong = [
            "in", "in 100", "in near", "in near 100", "100 near", "in 100 near up", "in 100 near 100", "In 100 near",
            "IN 100 near", "on 100 near", "in 100 Near", "in 100 nearest", "in 100 nea", "in 100 round", "in 100 none",
            "in 1 near", "in 0 near", "in 101 near", "in 1000 near", "in 999999999 near", "in -5 near", "in +5 near",
            "in 010 near", "in 0100 near", "in 02 near", "in 00 near", "in 10.0 near", "in 1e1 near", "in 0x9 near",
            "in 1_0 near", "in ten near", "in some near", "in a near", "in 10, near", "in 10near", "in10 near",
            " in 100 near", "in 100 near ", "in  100 near", "in 100  near", "in 100 near.", "in 100-near", "in  near",
            "in 100 ", "in 100 near\\",
        ]
        for line in wrong:
            self.bad(1, line, ASKED, PART)
        for how in HOWS:
            self.bad(1, f"in 1 {how}", ASKED, PART)
            self.bad(1, f"in 101 {how}", ASKED, PART)

    def test_line_of_the_first_part(self):
        wrong = [
            "asked", "asked ", "asked  all", " asked all", "asked all ", "asked all more", "Asked all", "ask all",
            "askedall", "all", "all asked", "asked All", "asked ALL", "asked aLl", "asked al1", "asked 1", "asked a-b",
            "asked a_b", "asked a.", "asked 'a'", "asked abcdefghi", "asked abcdefghijklmnop", "asked all is 100",
            "asked all all", "part all", "asked a`", "asked {", "asked a{", "asked @",
        ]
        for line in wrong:
            self.bad(2, IN, line, PART)
            self.bad(2, IN, line)

    def test_lines_of_parts(self):
        wrong = [
            "part", "part x", "part x of", "part of all", "x of all", "part x all", "part x of all is",
            "part x of all all", "part x of all 40", "part x of all is 40 all", "part x of all is all 40",
            "part x of all all 40 is 40",
            "part x of all all 4 all 4", "part x of all is 4 is 4", "part x of all is 4 all 4 all 4",
            "part x of all no 4",
            "part x of all is 4 4", "part x of all is 4 4 all", "part x of all 4 is", "part x of all is 4 of all",
            "Part x of all", "parts x of all", "part x Of all", "part x in all", "part x from all is 4",
            "part x of all Is 40", "part x of all is 40 All 40", "partx of all", "part x ofall", "part x of all as 4",
        ]
        for line in wrong:
            self.bad(3, IN, ASKED, line)
            self.bad(4, IN, ASKED, PART, line)
            self.bad(5, IN, ASKED, PART, "part no of yes", line, "part")

    def test_blanks_in_lines_of_parts(self):
        right = "part x of all is 4 all 5"
        Page("\n".join([IN, ASKED, right]))
        for at in [place for place in range(len(right)) if right[place] == " "]:
            self.bad(3, IN, ASKED, right[:at] + right[at + 1:])
            self.bad(3, IN, ASKED, right[:at] + " " + right[at:])
        for line in (" " + right, right + " ", "part x of all ", "part x of all is 4 ", "part x of all all 4 "):
            self.bad(3, IN, ASKED, line)

    def test_names_of_parts(self):
        names = ("", "X", "xY", "x1", "1", "a-b", "a_b", "abcdefghi", "a" * 20, "'x'", "x,", "x.", "(x)", "a`", "{")
        for name in names:
            self.bad(3, IN, ASKED, f"part {name} of all")
            self.bad(4, IN, ASKED, PART, f"part {name} of yes is 4")
            self.bad(4, IN, ASKED, PART, f"part x of {name}")

    def test_a_name_twice(self):
        self.bad(3, IN, ASKED, "part all of all")
        self.bad(4, IN, ASKED, PART, "part yes of all")
        self.bad(4, IN, ASKED, PART, "part yes of yes")
        self.bad(4, IN, ASKED, PART, "part all of yes is 3")
        self.bad(6, IN, ASKED, PART, "part no of all", "part old of yes", "part no of yes")

    def test_a_part_that_does_not_stand_above(self):
        self.bad(3, IN, ASKED, "part x of other")
        self.bad(3, IN, ASKED, "part x of x")
        self.bad(3, IN, ASKED, "part x of yes", PART)
        self.bad(3, IN, ASKED, "part x of al", PART)
        self.bad(4, IN, ASKED, PART, "part old of no", "part no of all")
        self.bad(4, IN, ASKED, PART, "part old of old")

    def test_shares(self):
        words = [
            "101", "1000", "999999999", "-1", "+1", "00", "01", "040", "0100", "4.0", "4.5", "1e1", "0x1", "1_0",
            "None", "nobody", "any", "-", "Some", "SOME", "somes", "nones", "non", "all", "is", "x", "40,",
            "(40)", "'40'",
        ]
        for word in words:
            self.bad(3, IN, ASKED, f"part x of all is {word}")
            self.bad(3, IN, ASKED, f"part x of all all {word}")
            self.bad(3, IN, ASKED, f"part x of all is {word} all 4")
            self.bad(4, IN, ASKED, PART, f"part x of all is 4 all {word}")

    def test_shares_by_the_units(self):
        for base in (2, 9, 10, 11, 50, 99, 100):
            for how in HOWS:
                units = f"in {base} {how}"
                Page("\n".join([units, ASKED, f"part x of all is {base} all {base}"]))
                self.bad(3, units, ASKED, f"part x of all is {base + 1}")
                self.bad(3, units, ASKED, f"part x of all all {base + 1}")
                self.bad(4, units, ASKED, f"part x of all is {base}", f"part y of x is {base} all {base + 1}")

    def test_a_tenth_part(self):
        rows = [f"part {name} of {above}" for name, above in ("ba", "ca", "da", "eb", "fb", "gc", "hc", "id", "jd")]
        full = [IN, "asked a"] + rows
        self.assertEqual(len(Page("\n".join(full))), 10)
        self.bad(12, *full, "part k of e")
        self.bad(12, *full, "part k of a", "part l of a")
        chain = [f"part {name} of {above}" for name, above in ("ba", "cb", "dc", "ea", "fe", "gf", "ha", "ih", "ji")]
        self.assertEqual(Page("\n".join([IN, "asked a"] + chain)).ends, ("d", "g", "j"))
        self.bad(12, IN, "asked a", *chain, "part k of a")

    def test_a_seventh_end(self):
        rows = [f"part {name} of a" for name in "bcdefg"]
        self.assertEqual(len(Page("\n".join([IN, "asked a"] + rows)).ends), 6)
        self.bad(9, IN, "asked a", *rows, "part h of a")
        self.bad(9, IN, "asked a", *rows, "part h of a", "part i of b")
        # The first part beneath an end takes its place.
        self.assertEqual(len(Page("\n".join([IN, "asked a"] + rows + ["part h of b"])).ends), 6)
        self.bad(10, IN, "asked a", *rows, "part h of b", "part i of b")
        self.bad(11, IN, "asked a", *rows, "part h of b", "part i of c", "part j of b")
        self.bad(11, IN, "asked a", *rows, "part h of b", "part i of h", "part j of a")

    def test_a_part_four_steps_beneath(self):
        rows = ["part b of a", "part c of b", "part d of c"]
        self.assertEqual(Page("\n".join([IN, "asked a"] + rows)).ends, ("d",))
        self.bad(6, IN, "asked a", *rows, "part e of d")
        self.bad(6, IN, "asked a", *rows, "part e of d is none")
        self.bad(7, IN, "asked a", *rows, "part e of c", "part f of e")
        self.bad(8, IN, "asked a", *rows, "part e of a", "part f of b", "part g of d")

    def test_more_than_three_parts_of_one(self):
        for many in (4, 5, 6):
            rows = [f"part {name} of a is 10" for name in "bcdefg"[:many]]
            self.assertEqual(len(Page("\n".join([IN, "asked a"] + rows)).beneath("a")), many)

    def test_the_first_wrong_line_is_told(self):
        self.bad(1, "in 1 near", "asked", "part")
        self.bad(2, IN, "asked", "part")
        self.bad(3, IN, ASKED, "part", "part")
        self.bad(4, IN, ASKED, PART, "part x of all is 101", "part x of all is 102", "")
        self.bad(1, "in 1 near")
        self.bad(2, IN, "asked")
        names = ("ba", "ca", "da", "eb", "fb", "gc", "hc", "id", "jd", "ke")
        rows = [f"part {name} of {above}" for name, above in names]
        for at in range(2, 12):
            lines = [IN, "asked a"] + rows
            lines[at] = "part x of a is 101"
            self.bad(at + 1, *lines)

    def test_by_name(self):
        self.refuses_line(BadPage, 0, lambda value: Page(text=value), None)
        self.refuses_line(BadPage, 1, lambda value: Page(text=value), "")

    def test_changes_at_random(self):
        chance = random.Random(9)
        numbers, right = {}, 0
        for _ in range(12000):
            text = self.changed(chance, text_of(*random_page(chance)))
            number = first_bad_line(text)
            if number is None:
                self.assertEqual(Page(text).text, text)
                right += 1
            else:
                self.refuses_line(BadPage, number, Page, text)
                numbers[number] = numbers.get(number, 0) + 1
        self.assertGreater(right, 500)
        self.assertEqual(sorted(numbers), list(range(1, 13)))

    def changed(self, chance, text):
        """A text with one or two small changes: of a line, or of a character."""
        for _ in range(chance.randint(1, 2)):
            lines = text.split("\n")
            at = chance.randrange(len(lines))
            kind = chance.randrange(7)
            if kind == 0 and len(lines) > 1:
                del lines[at]
            elif kind == 1:
                lines.insert(chance.randint(0, len(lines)), lines[at])
            elif kind == 2:
                lines.insert(at, chance.choice(("", "part x of all", "asked x", "in 10 near")))
            elif kind == 3:
                lines.append("part new of " + chance.choice(lines).split(" ")[-1])
            elif lines[at]:
                place = chance.randrange(len(lines[at]))
                put = chance.choice(("", " ", "0", "1", "9", "a", "z", "A", "-", ".", lines[at][place] * 2))
                lines[at] = lines[at][:place] + put + lines[at][place + 1:]
            text = "\n".join(lines)
        return text


if __name__ == "__main__":
    unittest.main()
