"""Pages for the tests that counts fit, made at random by a seed, and pages near those."""

from fractions import Fraction

from anyasked.pages import Page
from tests.pagetexts import random_page, random_share, text_of
from tests.reckoning import many_in, rounded


def page_of(units, lines):
    return Page(text_of(units, lines))


def bare_page(chance, most_ends=6):
    """A page at random that tells no share."""
    while True:
        units, lines = random_page(chance)
        page = page_of(units, {part: (line[0], None, None) for part, line in lines.items()})
        if len(page.ends) <= most_ends:
            return page


def random_counts(chance, page, most):
    while True:
        counts = tuple(chance.choice((0, 1, most, chance.randint(0, most))) for _ in page.ends)
        if any(counts):
            return counts


def seen_share(chance, units, many, whole, told):
    """A share by which so many of so many may be told, or None."""
    if whole == 0 or chance.random() > told:
        return None
    exact = Fraction(many, whole)
    shares = [rounded(units[1], exact * units[0])]
    if exact == 0:
        shares.append("none")
    elif exact * units[0] < 1:
        shares.append("some")
    return chance.choice(shares)


def shown_page(chance, bare, counts, told=0.6):
    """The page with the parts of this one that tells shares which are right of counts."""
    lines = {bare.parts[0]: (None, None, None)}
    for part in bare.parts[1:]:
        above, many = bare[part][0], many_in(bare, counts, part)
        near = seen_share(chance, bare.units, many, many_in(bare, counts, above), told)
        lines[part] = (above, near, seen_share(chance, bare.units, many, sum(counts), told))
    return page_of(bare.units, lines)


def counted_page(chance, most=60, told=0.6, most_ends=6):
    """(page, counts): a page at random, and counts that fit it."""
    bare = bare_page(chance, most_ends)
    counts = random_counts(chance, bare, most)
    return shown_page(chance, bare, counts, told), counts


def moved_page(chance, page):
    """The page with a share that is one more or less, or another one."""
    part = chance.choice(page.parts[1:])
    tell, share = chance.choice(((page.told, page[part][1]), (page.told_far, page[part][2])))
    base = page.units[0]
    if share.__class__ is int and chance.random() < 0.7:
        return tell(part, min(base, max(0, share + chance.choice((-1, 1)))))
    return tell(part, random_share(chance, base))


def any_page(chance, most=60):
    """A page at random: one that counts fit, one near such a one, or one of any shares."""
    moves = chance.choice((0, 0, 0, 0, 1, 1, 2, None))
    if moves is None:
        return page_of(*random_page(chance))
    page, _ = counted_page(chance, most)
    for _ in range(moves):
        page = moved_page(chance, page)
    return page


def flat_page(units, nears, fars=None):
    """The page of the first part with so many parts right beneath it."""
    names = "abcdef"[:len(nears)]
    lines = {"all": (None, None, None)}
    for name, near, far in zip(names, nears, fars or [None] * len(nears)):
        lines[name] = ("all", near, far)
    return page_of(units, lines)


def in_other_units(chance, bare):
    """The page with the same parts in other units, without a share."""
    units = (chance.choice((2, 3, 7, 10, 50, 100)), chance.choice(("near", "even", "down", "up")))
    return page_of(units, {part: bare[part][:1] + (None, None) for part in bare.parts})
