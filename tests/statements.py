"""Statements for the tests, made at random by a seed, and what is right to tell of them."""

from tests.reckoning import fits, holds, is_counts, is_kind, is_paper, row_of, rows_of

WORDS = ("least", "more", "just")
OPPOSITE = {"least": "more", "more": "least"}


def random_weight(chance):
    most = chance.choice((1, 2, 5, 100, 999))
    return chance.choice((-1, 1)) * chance.randint(1, most)


def random_statement(chance, page, word=None):
    """A statement of a page; often about what the page tells."""
    word = word or chance.choice(WORDS)
    if chance.random() < 0.5 and len(page.parts) > 1:
        part = chance.choice(page.parts[1:])
        whole = chance.choice((page[part][0], page.parts[0]))
        share = chance.choice((page[part][1], page[part][2], chance.randint(1, page.units[0])))
        if share.__class__ is int and 0 < share <= page.units[0]:
            half = chance.choice((0, 1, -1))
            weights = ((part, 2 * page.units[0]), (whole, -(2 * share + half)))
            sign = chance.choice((-1, 1))
            return tuple(sorted((name, sign * weight) for name, weight in weights)), word
    parts = chance.sample(page.parts, chance.randint(1, min(4, len(page.parts))))
    return tuple(sorted((part, random_weight(chance)) for part in parts)), word


def differing_statement(chance, page):
    """A statement of how two parts differ, by small weights."""
    parts = sorted(chance.sample(page.parts, 2))
    return tuple((part, weight * chance.randint(1, 3)) for part, weight in zip(parts, (1, -1))), chance.choice(WORDS)


def with_word(statement, word):
    return statement[0], word


def other_signs(statement, word):
    return tuple((part, -weight) for part, weight in statement[0]), word


def rows_for(page, statement):
    """The rows by which a statement is so, and those of each way in which it is not."""
    word = statement[1]
    if word == "just":
        so = (row_of(page, statement, "least"), row_of(page, statement, "least", -1))
        return so, ((row_of(page, statement, "more"),), (row_of(page, statement, "more", -1),))
    return (row_of(page, statement, word),), ((row_of(page, statement, OPPOSITE[word], -1),),)


def are_papers(page, further, value):
    if not is_kind(value, tuple) or len(value) != len(further):
        return False
    return all(is_paper(rows_of(page) + more, paper) for more, paper in zip(further, value))


def is_right(page, statement, value):
    """Whether any value is right to tell of a statement, if any table fits the page."""
    if not is_kind(value, tuple) or len(value) not in (2, 3):
        return False
    so, not_so = rows_for(page, statement)
    if len(value) == 2 and value[0] == "always":
        return are_papers(page, not_so, value[1])
    if len(value) == 2 and value[0] == "never":
        return are_papers(page, (so,), value[1])
    if len(value) == 2 or value[0] != "open":
        return False
    if not all(is_counts(page, counts) and fits(page, counts) for counts in value[1:]):
        return False
    return holds(page, statement, value[1]) and not holds(page, statement, value[2])
