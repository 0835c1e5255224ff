"""Point 4: shares."""

import unittest
from fractions import Fraction

from anyasked import shares
from anyasked.errors import BadCount, BadShare, BadUnits
from anyasked.shares import shown, stretch
from tests.anyvalues import Refusals, any_values, is_plain_integer
from tests.reckoning import HALF, rounded

HOWS = ("near", "even", "down", "up")


def lies_in(found, exact):
    """Whether a Fraction lies in a stretch."""
    low, is_low, high, is_high = found
    low, high = Fraction(*low), Fraction(*high)
    return low < exact < high or (is_low and exact == low) or (is_high and exact == high)


def bad_units():
    wrong = [
        (1, "near"), (0, "near"), (-2, "near"), (101, "near"), (999999999, "up"), (True, "near"), (False, "near"),
        (None, "near"), ("100", "near"), ((100,), "near"), ([100], "near"), ({}, "near"),
        (100, "Near"), (100, "NEAR"), (100, "nearest"), (100, "near "), (100, ""), (100, None), (100, 1), (100, True),
        (100, ("near",)), (100, ["near"]), (100, {"near": 1}), (100, 100), ("near", "near"), ("near", 100),
        (100,), (100, "near", "near"), (100, "near", None), ((100, "near"),), "near", "in", 100, [100, "near"],
    ]
    return wrong + any_values()


def wrong_wholes():
    return [value for value in any_values() if not is_plain_integer(value) or value < 1]


def wrong_manys(whole):
    return [value for value in any_values() if not is_plain_integer(value) or not 0 <= value <= whole]


def wrong_shares(base):
    """Values that are no share by units of this base."""
    more = [-1, base + 1, "someone", "Some", "None", "none ", " some", "0", str(base), ("none",), ["some"], (0,), [0]]
    return more + [
        value
        for value in any_values()
        if not (is_plain_integer(value) and 0 <= value <= base) and value != "none" and value != "some"
    ]


class ShownTest(unittest.TestCase, Refusals):
    def test_the_documents_example(self):
        told = [shown((100, "near"), 1, 8), shown((100, "even"), 1, 8), shown((10, "up"), 1, 99)]
        self.assertEqual(told, [13, 12, 1])

    def test_some_by_hand(self):
        cases = [
            ("near", 1, 3, 33), ("even", 1, 3, 33), ("down", 1, 3, 33), ("up", 1, 3, 34),
            ("near", 2, 3, 67), ("even", 2, 3, 67), ("down", 2, 3, 66), ("up", 2, 3, 67),
            ("near", 3, 8, 38), ("even", 3, 8, 38), ("down", 3, 8, 37), ("up", 3, 8, 38),
            ("near", 5, 8, 63), ("even", 5, 8, 62), ("down", 5, 8, 62), ("up", 5, 8, 63),
            ("near", 1, 200, 1), ("even", 1, 200, 0), ("down", 1, 200, 0), ("up", 1, 200, 1),
            ("near", 199, 200, 100), ("even", 199, 200, 100), ("down", 199, 200, 99), ("up", 199, 200, 100),
            ("near", 1, 999, 0), ("even", 1, 999, 0), ("down", 1, 999, 0), ("up", 1, 999, 1),
            ("near", 1, 2, 50), ("even", 1, 2, 50), ("down", 1, 2, 50), ("up", 1, 2, 50),
        ]
        for how, many, whole, told in cases:
            with self.subTest((how, many, whole)):
                self.assertEqual(shown((100, how), many, whole), told)

    def test_small_numbers(self):
        for how in HOWS:
            for base in (2, 3, 4, 7, 10, 25, 99, 100):
                for whole in list(range(1, 30)) + [64, 200, 201]:
                    for many in range(whole + 1):
                        told = shown((base, how), many, whole)
                        self.assertEqual(told, rounded(how, Fraction(base * many, whole)), (base, how, many, whole))
                        self.assertIs(told.__class__, int)

    def test_nobody_and_all(self):
        for how in HOWS:
            for base in range(2, 101):
                for whole in (1, 2, 3, 100, 999999999):
                    self.assertEqual(shown((base, how), 0, whole), 0)
                    self.assertEqual(shown((base, how), whole, whole), base)

    def test_halves_and_beside_them_with_nine_figures(self):
        # 100 * (2 * number + 1) / 200 is a half between two integers.
        for times in (1, 7, 499999, 4999999):
            whole = 200 * times
            for number in range(100):
                half = (2 * number + 1) * times
                expected = {"near": number + 1, "even": number + number % 2, "down": number, "up": number + 1}
                for how in HOWS:
                    self.assertEqual(shown((100, how), half, whole), expected[how], (how, half, whole))
                if times == 1:
                    continue
                for how, below, above in (
                    ("near", number, number + 1),
                    ("even", number, number + 1),
                    ("down", number, number),
                    ("up", number + 1, number + 1),
                ):
                    self.assertEqual(shown((100, how), half - 1, whole), below, (how, half - 1, whole))
                    self.assertEqual(shown((100, how), half + 1, whole), above, (how, half + 1, whole))

    def test_integers_and_beside_them_with_nine_figures(self):
        whole = 999999900
        for number in range(1, 100):
            many = number * (whole // 100)
            for how in HOWS:
                self.assertEqual(shown((100, how), many, whole), number)
            self.assertEqual(shown((100, "down"), many - 1, whole), number - 1)
            self.assertEqual(shown((100, "down"), many + 1, whole), number)
            self.assertEqual(shown((100, "up"), many - 1, whole), number)
            self.assertEqual(shown((100, "up"), many + 1, whole), number + 1)
            self.assertEqual(shown((100, "near"), many - 1, whole), number)
            self.assertEqual(shown((100, "even"), many + 1, whole), number)

    def test_great_numbers_exactly(self):
        whole = 999999999
        for base in (2, 3, 10, 97, 100):
            for number in range(2 * base + 1):
                middle = number * whole // (2 * base)
                for many in range(max(0, middle - 2), min(whole, middle + 2) + 1):
                    for how in HOWS:
                        told = shown((base, how), many, whole)
                        self.assertEqual(told, rounded(how, Fraction(base * many, whole)), (base, how, many))

    def test_bad_units(self):
        for units in bad_units():
            self.refuses(BadUnits, units, shown, units, 1, 2)

    def test_the_least_and_the_greatest_base(self):
        for how in HOWS:
            self.assertEqual(shown((2, how), 1, 1), 2)
            self.assertEqual(shown((100, how), 1, 1), 100)

    def test_bad_whole(self):
        for whole in wrong_wholes():
            self.refuses(BadCount, whole, shown, (100, "near"), 0, whole)

    def test_bad_many(self):
        for many in wrong_manys(60):
            self.refuses(BadCount, many, shown, (100, "near"), many, 60)
        self.refuses(BadCount, True, shown, (100, "near"), True, 1)
        self.refuses(BadCount, False, shown, (100, "near"), False, 1)
        for whole in (1, 2, 999999998):
            over = whole + 1
            self.refuses(BadCount, over, shown, (100, "near"), over, whole)
        for how in HOWS:
            self.refuses(BadCount, -1, shown, (2, how), -1, 5)

    def test_the_first_wrong_one_is_told(self):
        for wrong in ([], True, None, "near", 0, -1, {}):
            for other in ([1], "x", (), -5):
                self.refuses(BadUnits, wrong, shown, wrong, other, 1)
                self.refuses(BadUnits, wrong, shown, wrong, 1, other)
                self.refuses(BadUnits, wrong, shown, wrong, other, other)
                self.refuses(BadCount, wrong, shown, (10, "up"), other, wrong)

    def test_by_name(self):
        self.assertEqual(shown(units=(100, "near"), many=1, whole=8), 13)
        self.assertEqual(shown(whole=8, many=1, units=(100, "down")), 12)
        self.assertEqual(shown((100, "up"), whole=9, many=8), 89)
        self.refuses(BadCount, -1, shown, units=(100, "near"), many=-1, whole=8)

    def test_files(self):
        self.assertEqual((shown.__module__, stretch.__module__), ("anyasked.shares", "anyasked.shares"))
        self.assertIs(shares.shown, shown)


class StretchTest(unittest.TestCase, Refusals):
    def test_the_documents_example(self):
        self.assertEqual(stretch((10, "near"), 3), ((1, 4), True, (7, 20), False))
        self.assertEqual(stretch((100, "even"), 2), ((3, 200), True, (1, 40), True))

    def test_some_by_hand(self):
        cases = [
            ("near", 0, ((0, 1), True, (1, 20), False)),
            ("near", 1, ((1, 20), True, (3, 20), False)),
            ("near", 5, ((9, 20), True, (11, 20), False)),
            ("near", 10, ((19, 20), True, (1, 1), True)),
            ("even", 0, ((0, 1), True, (1, 20), True)),
            ("even", 1, ((1, 20), False, (3, 20), False)),
            ("even", 2, ((3, 20), True, (1, 4), True)),
            ("even", 10, ((19, 20), True, (1, 1), True)),
            ("down", 0, ((0, 1), True, (1, 10), False)),
            ("down", 4, ((2, 5), True, (1, 2), False)),
            ("down", 9, ((9, 10), True, (1, 1), False)),
            ("down", 10, ((1, 1), True, (1, 1), True)),
            ("up", 0, ((0, 1), True, (0, 1), True)),
            ("up", 1, ((0, 1), False, (1, 10), True)),
            ("up", 4, ((3, 10), False, (2, 5), True)),
            ("up", 10, ((9, 10), False, (1, 1), True)),
        ]
        for how, share, told in cases:
            with self.subTest((how, share)):
                self.assertEqual(stretch((10, how), share), told)

    def test_an_odd_base(self):
        self.assertEqual(stretch((3, "even"), 3), ((5, 6), False, (1, 1), True))
        self.assertEqual(stretch((3, "even"), 2), ((1, 2), True, (5, 6), True))
        self.assertEqual(stretch((3, "near"), 3), ((5, 6), True, (1, 1), True))
        self.assertEqual(stretch((3, "near"), 0), ((0, 1), True, (1, 6), False))

    def test_none_and_some(self):
        for how in HOWS:
            for base in range(2, 101):
                self.assertEqual(stretch((base, how), "none"), ((0, 1), True, (0, 1), True))
                self.assertEqual(stretch((base, how), "some"), ((0, 1), False, (1, base), False))

    def test_kinds(self):
        for how in HOWS:
            for base in (2, 5, 10):
                for share in list(range(base + 1)) + ["none", "some"]:
                    found = stretch((base, how), share)
                    self.assertIs(found.__class__, tuple)
                    low, is_low, high, is_high = found
                    self.assertIs(is_low.__class__, bool)
                    self.assertIs(is_high.__class__, bool)
                    for end in (low, high):
                        self.assertIs(end.__class__, tuple)
                        self.assertEqual([number.__class__ for number in end], [int, int])
                        exact = Fraction(*end)
                        self.assertEqual(end, (exact.numerator, exact.denominator))
                        self.assertTrue(0 <= exact <= 1)

    def test_ends_are_told_rightly_for_every_base(self):
        for how in HOWS:
            for base in range(2, 101):
                for share in range(base + 1):
                    found = stretch((base, how), share)
                    (low, is_low, high, is_high) = found
                    self.assertEqual(is_low, shown((base, how), *low) == share, (base, how, share))
                    self.assertEqual(is_high, shown((base, how), *high) == share, (base, how, share))
                    before, behind = {"near": (HALF, HALF), "even": (HALF, HALF), "down": (0, 1), "up": (1, 0)}[how]
                    least = max(Fraction(0), (share - before) / Fraction(base))
                    greatest = min(Fraction(1), (share + behind) / Fraction(base))
                    self.assertEqual(low, (least.numerator, least.denominator), (base, how, share))
                    self.assertEqual(high, (greatest.numerator, greatest.denominator), (base, how, share))

    def test_each_fraction_lies_in_just_the_one_shown(self):
        for how in HOWS:
            for base in (2, 3, 5, 10, 16, 100):
                stretches = [stretch((base, how), share) for share in range(base + 1)]
                for number in range(8 * base + 1):
                    exact = Fraction(number, 8 * base)
                    within = [share for share in range(base + 1) if lies_in(stretches[share], exact)]
                    told = shown((base, how), exact.numerator, exact.denominator)
                    self.assertEqual(within, [told], (how, base, exact))

    def test_bad_units(self):
        for units in bad_units():
            self.refuses(BadUnits, units, stretch, units, 1)

    def test_bad_share(self):
        for base in (2, 10, 100):
            for how in HOWS:
                for share in wrong_shares(base):
                    self.refuses(BadShare, share, stretch, (base, how), share)

    def test_the_first_wrong_one_is_told(self):
        for wrong in ([], True, None, "near", (101, "near"), [100, "near"]):
            for share in (-1, None, [], True, 1000, "any"):
                self.refuses(BadUnits, wrong, stretch, wrong, share)

    def test_by_name(self):
        self.assertEqual(stretch(units=(10, "near"), share=3), stretch((10, "near"), 3))
        self.assertEqual(stretch(share="some", units=(10, "near")), stretch((10, "near"), "some"))
        self.refuses(BadShare, None, stretch, share=None, units=(10, "near"))

    def test_equal_calls_return_equal_results(self):
        for share in (0, 5, 10, "none", "some"):
            first = stretch((10, "even"), share)
            self.refuses(BadShare, 11, stretch, (10, "even"), 11)
            self.assertEqual(stretch((10, "even"), share), first)
            self.assertEqual(shown((10, "even"), 1, 4), shown((10, "even"), 1, 4))


if __name__ == "__main__":
    unittest.main()
