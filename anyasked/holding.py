"""Statements: what is so in all tables that fit a page, in none, or in some."""

from anyasked.deciding import decided
from anyasked.errors import BadStatement, NoTable
from anyasked.kinds import is_integer, is_name
from anyasked.possible import possible
from anyasked.rows import are_so, is_paper, rows, weights_of

MOST_TERMS = 4
MOST_WEIGHT = 999
WORDS = ("least", "more", "just")


def judged(page, statement):
    """("always", papers), ("never", papers) or ("open", counts, other)."""
    so, breaches = ways_of(page, statement)
    told = rows(page)
    word, found = decided(told + so)
    others = [decided(told + breach) for breach in breaches]
    broken = [counts for kind, counts in others if kind == "table"]
    # By each table the statement is so, or it is not.
    if word == "never" and not broken:
        raise NoTable(None)
    if not broken:
        return "always", tuple([paper for kind, paper in others])
    if word == "never":
        return "never", (found,)
    return "open", found, broken[0]


def shows_judged(page, statement, value):
    """Whether any value tells rightly how a statement holds."""
    so, breaches = ways_of(page, statement)
    if possible(page)[0] == "never":
        raise NoTable(None)
    if not isinstance(value, tuple) or len(value) < 2:
        return False
    word, *found = value
    if word == "open" and len(found) == 2:
        return are_so(page, so, found[0]) and any([are_so(page, breach, found[1]) for breach in breaches])
    if len(found) != 1:
        return False
    if word == "always":
        return are_papers(page, breaches, found[0])
    return word == "never" and are_papers(page, (so,), found[0])


def ways_of(page, statement):
    """The further rows by which a statement is so, and for each way in which it is not, those by which that is."""
    if not is_statement(page, statement):
        raise BadStatement(statement)
    terms, word = statement
    weights = weights_of(page, terms)
    others = tuple([-weight for weight in weights])
    if word == "least":
        return ((weights, "least"),), (((others, "more"),),)
    if word == "more":
        return ((weights, "more"),), (((others, "least"),),)
    return ((weights, "least"), (others, "least")), (((weights, "more"),), ((others, "more"),))


def is_statement(page, value):
    """Whether any value is a statement of a page."""
    return is_statement_of_names(value) and all([part in page for part, weight in value[0]])


def is_statement_of_names(value):
    """Whether any value has the form of a statement, with any names as parts."""
    if not isinstance(value, tuple) or len(value) != 2:
        return False
    terms, word = value
    if not isinstance(terms, tuple) or not 1 <= len(terms) <= MOST_TERMS:
        return False
    if not all([is_term(term) for term in terms]):
        return False
    parts = [part for part, weight in terms]
    return parts == sorted(set(parts)) and word in WORDS


def is_term(value):
    """Whether any value is a term: a name with a weight."""
    if not isinstance(value, tuple) or len(value) != 2:
        return False
    part, weight = value
    return is_name(part) and is_integer(weight) and weight != 0 and abs(weight) <= MOST_WEIGHT


def are_papers(page, further, value):
    """Whether any value is papers, one for each of the tuples of rows behind those of a page."""
    if not isinstance(value, tuple) or len(value) != len(further):
        return False
    return all([is_paper(page, more, paper) for more, paper in zip(further, value)])
