"""Point 5: what a page tells."""

import random
import unittest
from operator import getitem

from anyasked.errors import NoPart
from anyasked.pages import Page
from tests.anyvalues import Refusals, any_values
from tests.pagetexts import EXAMPLE, HOWS, ends_of_tree, random_page, text_of

# Three steps deep, nine parts beneath the first one, six ends.
DEEP = (
    "in 10 even\nasked a\npart b of a is 5\npart c of b is none all 0\npart d of c all some\npart e of a\n"
    "part f of e is 10 all 10\npart g of f\npart h of e all 3\npart i of b is some\npart j of e is 0"
)


def above_and_beneath(lines, part):
    """The ends beneath a part, found downwards."""
    ends = set()
    beneath = [name for name in lines if lines[name][0] == part]
    if not beneath:
        ends.add(part)
    for name in beneath:
        ends |= above_and_beneath(lines, name)
    return ends


class ReadingTest(unittest.TestCase, Refusals):
    def same(self, page, units, lines):
        """The page tells just this."""
        self.assertEqual(page.text, text_of(units, lines))
        self.assertEqual(page.units, units)
        self.assertEqual(page.parts, tuple(lines))
        ends = ends_of_tree({part: line[0] for part, line in lines.items()})
        self.assertEqual(page.ends, ends)
        self.assertEqual(len(page), len(lines))
        for part in lines:
            self.assertEqual(page[part], lines[part])
            beneath = tuple(name for name in lines if lines[name][0] == part)
            self.assertEqual(page.beneath(part), beneath)
            among = above_and_beneath(lines, part)
            self.assertEqual(page.ends_of(part), tuple(end for end in ends if end in among))
            self.assertIs(part in page, True)

    def test_the_documents_example(self):
        page = Page(EXAMPLE)
        told = [page.parts, page.ends, page["young"], page.beneath("yes"), page.ends_of("all"), len(page)]
        self.assertEqual(told, [
            ("all", "yes", "no", "open", "young", "old"),
            ("no", "open", "young", "old"),
            ("yes", 62, None),
            ("young", "old"),
            ("no", "open", "young", "old"),
            6,
        ])
        self.assertEqual(page.text, EXAMPLE)
        self.assertEqual(page.units, (100, "near"))
        self.assertEqual(page["all"], (None, None, None))
        self.assertEqual(page["open"], ("all", None, None))
        self.assertEqual(page.beneath("all"), ("yes", "no", "open"))
        self.assertEqual(page.beneath("no"), ())
        self.assertEqual(page.ends_of("yes"), ("young", "old"))
        self.assertEqual(page.ends_of("no"), ("no",))

    def test_a_deep_one(self):
        page = Page(DEEP)
        self.assertEqual(page.units, (10, "even"))
        self.assertEqual(page.parts, tuple("abcdefghij"))
        self.assertEqual(page.ends, ("d", "g", "h", "i", "j"))
        self.assertEqual(len(page), 10)
        told = [page[part] for part in page.parts]
        self.assertEqual(told, [
            (None, None, None), ("a", 5, None), ("b", "none", 0), ("c", None, "some"), ("a", None, None),
            ("e", 10, 10), ("f", None, None), ("e", None, 3), ("b", "some", None), ("e", 0, None),
        ])
        self.assertEqual([page.beneath(part) for part in "abcdefghij"], [
            ("b", "e"), ("c", "i"), ("d",), (), ("f", "h", "j"), ("g",), (), (), (), (),
        ])
        self.assertEqual([page.ends_of(part) for part in "abcdefghij"], [
            ("d", "g", "h", "i", "j"), ("d", "i"), ("d",), ("d",), ("g", "h", "j"), ("g",), ("g",), ("h",), ("i",),
            ("j",),
        ])

    def test_one_part(self):
        page = Page("in 2 up\nasked x\npart y of x")
        self.assertEqual((page.parts, page.ends, len(page)), (("x", "y"), ("y",), 2))
        self.assertEqual((page.beneath("x"), page.ends_of("x"), page.ends_of("y")), (("y",), ("y",), ("y",)))
        self.assertEqual((page["x"], page["y"]), ((None, None, None), ("x", None, None)))

    def test_the_first_part_with_six_parts(self):
        text = "\n".join(["in 100 near", "asked all"] + [f"part {name} of all is 16" for name in "abcdef"])
        page = Page(text)
        self.assertEqual(page.beneath("all"), tuple("abcdef"))
        self.assertEqual(page.ends, tuple("abcdef"))

    def test_nine_parts_with_six_ends(self):
        rows = ["in 100 down", "asked all", "part a of all", "part b of all", "part c of all"]
        rows += [f"part {name} of {above}" for name, above in ("da", "ea", "fb", "gb", "hc", "ic")]
        page = Page("\n".join(rows))
        self.assertEqual(page.ends, tuple("defghi"))
        self.assertEqual(page.ends_of("b"), ("f", "g"))
        self.assertEqual(len(page), 10)

    def test_words_as_names(self):
        rows = ["part of of all is 1 all 2", "part is of of all none", "part part of all is some"]
        page = Page("\n".join(["in 10 near", "asked all"] + rows))
        self.assertEqual(page.parts, ("all", "of", "is", "part"))
        self.assertEqual([page[part] for part in page.parts[1:]], [
            ("all", 1, 2), ("of", None, "none"), ("all", "some", None),
        ])
        page = Page("in 10 near\nasked near\npart some of near all some\npart none of some is none\npart in of some")
        self.assertEqual(page.ends, ("none", "in"))

    def test_names_of_one_and_of_eight_letters(self):
        page = Page("in 10 near\nasked abcdefgh\npart z of abcdefgh\npart zzzzzzzz of z\npart azazazaz of zzzzzzzz")
        self.assertEqual(page.parts, ("abcdefgh", "z", "zzzzzzzz", "azazazaz"))

    def test_all_units(self):
        for how in HOWS:
            for base in range(2, 101):
                page = Page(f"in {base} {how}\nasked a\npart b of a is {base} all 0\npart c of a is 1 all {base - 1}")
                self.assertEqual(page.units, (base, how))
                self.assertEqual(page["b"], ("a", base, 0))
                self.assertEqual(page["c"], ("a", 1, base - 1))

    def test_all_shares(self):
        for share in list(range(101)) + ["none", "some"]:
            page = Page(f"in 100 even\nasked a\npart b of a is {share}\npart c of a all {share}")
            self.assertEqual(page["b"], ("a", share, None))
            self.assertEqual(page["c"], ("a", None, share))

    def test_kinds(self):
        page = Page(DEEP)
        for value in (page.units, page.parts, page.ends, page["a"], page["b"], page.beneath("a"), page.ends_of("a")):
            self.assertIs(value.__class__, tuple)
        self.assertIs(page.beneath("d").__class__, tuple)
        self.assertEqual([value.__class__ for value in page.units], [int, str])
        self.assertEqual([value.__class__ for value in page["f"]], [str, int, int])

    def test_many_at_random(self):
        chance = random.Random(5)
        sizes = set()
        for _ in range(1500):
            units, lines = random_page(chance)
            self.same(Page(text_of(units, lines)), units, lines)
            sizes.add(len(lines))
        self.assertEqual(sizes, set(range(2, 11)))

    def test_by_name(self):
        page = Page(text=EXAMPLE)
        self.assertEqual(page, Page(EXAMPLE))
        self.assertEqual(page.beneath(part="yes"), ("young", "old"))
        self.assertEqual(page.ends_of(part="yes"), ("young", "old"))
        self.refuses(NoPart, "x", page.beneath, part="x")
        self.refuses(NoPart, "x", page.ends_of, part="x")

    def test_methods_stand_in_the_class_itself(self):
        for name in ("beneath", "ends_of", "told", "told_far"):
            self.assertIn(name, vars(Page))
        self.assertEqual(Page.__module__, "anyasked.pages")


class PartsTest(unittest.TestCase, Refusals):
    def test_what_is_no_part(self):
        page = Page("in 100 near\nasked all\npart yes of all is 40\npart no of all")
        more = ["", "ye", "yess", "Yes", "yes ", " yes", "of", "part", ("yes",), ["yes"], {"yes": 1}, 0, 1, 2, -1]
        for value in more + [value for value in any_values() if value not in ("all", "yes", "no")]:
            self.assertIs(value in page, False)
            self.refuses(NoPart, value, getitem, page, value)
            self.refuses(NoPart, value, page.beneath, value)
            self.refuses(NoPart, value, page.ends_of, value)

    def test_by_index(self):
        page = Page(EXAMPLE)
        for value in ("nobody", 0, -1, True, None, ["yes"], ("yes", "no"), page):
            with self.assertRaises(NoPart) as caught:
                page[value]
            self.assertIs(caught.exception.value, value)

    def test_what_is_a_part(self):
        page = Page(EXAMPLE)
        for part in ("all", "yes", "no", "open", "young", "old"):
            self.assertIs(part in page, True)
            self.assertIs("".join(list(part)) in page, True)
        self.assertIs("is" in page, False)
        self.assertIs("yes" not in page, False)

    def test_equal_calls_return_equal_results(self):
        page = Page(DEEP)

        def everything():
            rows = [(page[part], page.beneath(part), page.ends_of(part)) for part in page.parts]
            return page.text, page.units, page.parts, page.ends, len(page), rows

        first = everything()
        for value in any_values():
            if value != "a":
                for call in (page.beneath, page.ends_of):
                    if value not in page:
                        self.refuses(NoPart, value, call, value)
        self.assertEqual(everything(), first)


class EqualTest(unittest.TestCase):
    def test_the_same_text(self):
        for text in (EXAMPLE, DEEP):
            self.assertIs(Page(text) == Page("".join(list(text))), True)
            self.assertIs(Page(text) != Page(text), False)

    def test_another_text(self):
        page = Page(EXAMPLE)
        others = [
            DEEP,
            EXAMPLE.replace("100", "99"),
            EXAMPLE.replace("near", "even"),
            EXAMPLE.replace("all", "both"),
            EXAMPLE.replace("is 40", "is 41"),
            EXAMPLE.replace("is 40", "all 40"),
            EXAMPLE.replace(" is 40", ""),
            EXAMPLE + " is 38",
            EXAMPLE + "\npart other of yes",
            "\n".join(EXAMPLE.split("\n")[:-1]),
            "\n".join(EXAMPLE.split("\n")[:2] + sorted(EXAMPLE.split("\n")[2:5]) + EXAMPLE.split("\n")[5:]),
        ]
        for other in others:
            self.assertIs(page == Page(other), False, other)
            self.assertIs(page != Page(other), True, other)

    def test_values_of_any_kind(self):
        page = Page(EXAMPLE)
        for value in any_values() + [EXAMPLE, (EXAMPLE,), [page], page.parts, page.units, 6]:
            self.assertIs(page == value, False)
            self.assertIs(value == page, False)
            self.assertIs(page != value, True)
            self.assertIs(value != page, True)


class SignsTest(unittest.TestCase):
    """Point 2: what a page is not told to do raises TypeError."""

    def test_signs_of_reckoning_and_of_order(self):
        calls = [
            lambda one, other: one + other, lambda one, other: one - other, lambda one, other: one * other,
            lambda one, other: one / other, lambda one, other: one // other, lambda one, other: one % other,
            lambda one, other: one ** other, lambda one, other: one & other, lambda one, other: one | other,
            lambda one, other: one ^ other, lambda one, other: one << other, lambda one, other: one >> other,
            lambda one, other: one < other, lambda one, other: one <= other, lambda one, other: one > other,
            lambda one, other: one >= other,
        ]
        for call in calls:
            for other in (Page(DEEP), Page(EXAMPLE), 0, 1, 2, None, True):
                self.assertRaises(TypeError, call, Page(EXAMPLE), other)
                self.assertRaises(TypeError, call, other, Page(EXAMPLE))
            for other in ("yes", (), [], {}):
                self.assertRaises(TypeError, call, Page(EXAMPLE), other)
        for call in (lambda one: -one, lambda one: +one, lambda one: ~one, abs):
            self.assertRaises(TypeError, call, Page(EXAMPLE))

    def test_a_page_is_not_changed_by_index(self):
        page = Page(EXAMPLE)
        with self.assertRaises(TypeError):
            page["open"] = 25
        self.assertEqual((page["open"], page.text), (("all", None, None), EXAMPLE))

    def test_what_stands_in_place(self):
        page = Page(EXAMPLE)
        for other in (1, page):
            with self.assertRaises(TypeError):
                page += other
            with self.assertRaises(TypeError):
                page *= other
        self.assertEqual(page, Page(EXAMPLE))


if __name__ == "__main__":
    unittest.main()
