"""The cheapest changes of a page by which wishes come true."""

from anyasked.errors import BadOffers, BadPage, BadWishes
from anyasked.holding import is_statement, is_statement_of_names, judged, shows_judged
from anyasked.kinds import is_integer
from anyasked.pages import Page
from anyasked.possible import possible

MOST_OFFERS = 4
MOST_PRICE = 9
MOST_WISHES = 3
WORDS = ("always", "never", "open")


def cheapest(page, offers, wishes):
    """("choice", price, choice, told, reasons), or ("none", reasons)."""
    refuse(page, offers, wishes)
    reasons = []
    for price, choice, changed in counting(page, offers, wishes):
        told = [judged(changed, statement) for statement, word in wishes]
        missed = [number for number, found in enumerate(told) if found[0] != wishes[number][1]]
        if not missed:
            return "choice", price, choice, tuple(told), tuple(reasons)
        reasons.append((choice, missed[0], told[missed[0]]))
    return "none", tuple(reasons)


def shows_cheapest(page, offers, wishes, value):
    """Whether any value tells the cheapest choice rightly."""
    refuse(page, offers, wishes)
    if not isinstance(value, tuple) or len(value) < 2:
        return False
    word, *found = value
    choices = counting(page, offers, wishes)
    if word == "none" and len(found) == 1:
        return are_reasons(choices, wishes, found[0])
    if word != "choice" or len(found) != 4 or not isinstance(found[3], tuple):
        return False
    price, choice, told, reasons = found
    ahead = len(reasons)
    if ahead >= len(choices) or not are_reasons(choices[:ahead], wishes, reasons):
        return False
    if not is_integer(price) or price != choices[ahead][0] or not is_choice(choices[ahead][1], choice):
        return False
    return are_told(choices[ahead][2], wishes, told)


def refuse(page, offers, wishes):
    """Raises BadOffers or BadWishes for what is none."""
    if not are_offers(page, offers):
        raise BadOffers(offers)
    if not are_wishes(wishes):
        raise BadWishes(wishes)


def are_offers(page, value):
    """Whether any value is offers for a page."""
    if not isinstance(value, tuple) or not 1 <= len(value) <= MOST_OFFERS:
        return False
    if not all([is_offer(offer) for offer in value]):
        return False
    lines = len(page.text.split("\n"))
    if not all([1 <= line <= lines for line, text, price in value]):
        return False
    return all([here < behind for here, behind in zip(value, value[1:])])


def is_offer(value):
    """Whether any value is an offer for some line."""
    if not isinstance(value, tuple) or len(value) != 3:
        return False
    line, text, price = value
    if not is_integer(line) or not isinstance(text, str) or not is_integer(price):
        return False
    return 1 <= price <= MOST_PRICE


def are_wishes(value):
    """Whether any value is wishes."""
    if not isinstance(value, tuple) or not 1 <= len(value) <= MOST_WISHES:
        return False
    return all([is_wish(wish) for wish in value])


def is_wish(value):
    """Whether any value is a wish."""
    if not isinstance(value, tuple) or len(value) != 2:
        return False
    statement, word = value
    return is_statement_of_names(statement) and word in WORDS


def counting(page, offers, wishes):
    """(price, choice, changed page) for each choice that counts, in sequence."""
    found = []
    for price, many, choice in sorted(choices_among(offers)):
        changed = changed_page(page, choice)
        if changed is not None and is_asked_rightly(changed, wishes):
            found.append((price, choice, changed))
    return found


def choices_among(offers):
    """(price, number of offers, choice) for each choice, in any sequence."""
    found = [(0, 0, ())]
    for offer in offers:
        line, text, price = offer
        free = [one for one in found if line not in [taken[0] for taken in one[2]]]
        # The offers come ascending, so each choice is ascending, too.
        found = found + [(before + price, many + 1, choice + (offer,)) for before, many, choice in free]
    return found


def changed_page(page, choice):
    """The page with the lines of a choice replaced, or None if the text is none of a page."""
    texts = {line: text for line, text, price in choice}
    lines = []
    for number, own in enumerate(page.text.split("\n"), start=1):
        text = texts.get(number, own)
        if text != "":
            lines.append(text)
    try:
        return Page("\n".join(lines))
    except BadPage:
        return None


def is_asked_rightly(page, wishes):
    """Whether some table fits a page, and each statement of a wish is one of it."""
    if possible(page)[0] == "never":
        return False
    return all([is_statement(page, statement) for statement, word in wishes])


def are_reasons(choices, wishes, value):
    """Whether any value is a tuple of a right reason for each of these choices, in sequence."""
    if not isinstance(value, tuple) or len(value) != len(choices):
        return False
    return all([is_reason(choice, page, wishes, reason) for (price, choice, page), reason in zip(choices, value)])


def is_reason(choice, page, wishes, value):
    """Whether any value is a right reason for a choice that makes this page: a wish that does not come true."""
    if not isinstance(value, tuple) or len(value) != 3:
        return False
    same, number, told = value
    if not is_choice(choice, same) or not is_integer(number) or not 0 <= number < len(wishes):
        return False
    statement, word = wishes[number]
    return shows_judged(page, statement, told) and told[0] != word


def is_choice(choice, value):
    """Whether any value is just this choice."""
    return isinstance(value, tuple) and all([is_offer(offer) for offer in value]) and value == choice


def are_told(page, wishes, value):
    """Whether any value is a tuple of what is right to tell of each wish, all of which come true."""
    if not isinstance(value, tuple) or len(value) != len(wishes):
        return False
    return all([
        shows_judged(page, statement, told) and told[0] == word
        for (statement, word), told in zip(wishes, value)
    ])
