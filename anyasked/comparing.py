"""Two pages: whether all tables that fit one fit the other."""

from anyasked.deciding import decided
from anyasked.errors import NoTable, Unlike
from anyasked.kinds import is_integer
from anyasked.possible import is_like, possible
from anyasked.rows import are_so, is_paper, is_so, rows


def within(one, other):
    """("within", papers) if all tables that fit one fit other, otherwise ("not", counts, number)."""
    refuse(one, other, (one,))
    return compared(one, other)


def shows_within(one, other, value):
    """Whether any value tells rightly whether all tables that fit one fit other."""
    refuse(one, other, (one,))
    if not isinstance(value, tuple) or len(value) < 2:
        return False
    word, *found = value
    if word == "within" and len(found) == 1:
        return are_papers(one, other, found[0])
    return word == "not" and len(found) == 2 and is_apart(one, other, found)


def alike(one, other):
    """("alike", papers, papers), or ("one", counts, number) or ("other", counts, number) by what fits just that."""
    refuse(one, other, (one, other))
    word, *found = compared(one, other)
    if word == "not":
        return "one", *found
    back, *further = compared(other, one)
    if back == "not":
        return "other", *further
    return "alike", *found, *further


def shows_alike(one, other, value):
    """Whether any value tells rightly whether the same tables fit both pages."""
    refuse(one, other, (one, other))
    if not isinstance(value, tuple) or len(value) != 3:
        return False
    word, *found = value
    if word == "alike":
        return are_papers(one, other, found[0]) and are_papers(other, one, found[1])
    if word == "one":
        return is_apart(one, other, found)
    return word == "other" and is_apart(other, one, found)


def refuse(one, other, needed):
    """Raises Unlike for another page that is not like the one, NoTable if none fits one of those that are needed."""
    if not is_like(one, other):
        raise Unlike(other)
    for page in needed:
        if possible(page)[0] == "never":
            raise NoTable(None)


def compared(one, other):
    """What within tells, a table fitting one."""
    told = rows(one)
    papers = []
    for number, row in enumerate(rows(other)):
        word, found = decided(told + (contrary(row),))
        if word == "table":
            return "not", found, number
        papers.append(found)
    return "within", tuple(papers)


def contrary(row):
    """The row that is so of counts just where this one is not."""
    weights, word = row
    return tuple([-weight for weight in weights]), ("more" if word == "least" else "least")


def are_papers(one, other, value):
    """Whether any value is a tuple of a paper for each row of other, by which it is never not so of what fits one."""
    told = rows(other)
    if not isinstance(value, tuple) or len(value) != len(told):
        return False
    return all([is_paper(one, (contrary(row),), paper) for row, paper in zip(told, value)])


def is_apart(one, other, found):
    """Whether any two values are counts that fit one, and the number of a row of other that is not so of them."""
    counts, number = found
    told = rows(other)
    if not is_integer(number) or not 0 <= number < len(told):
        return False
    return are_so(one, (), counts) and not is_so(told[number], counts)
