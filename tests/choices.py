"""What is right to tell of the cheapest changes, by the tests' own going through all choices."""

from itertools import combinations

from anyasked.pages import Page
from anyasked.possible import possible
from tests.pagetexts import first_bad_line
from tests.reckoning import is_kind
from tests.statements import is_right as is_right_judged


def all_choices(offers):
    """All choices, in sequence."""
    found = []
    for many in range(len(offers) + 1):
        for choice in combinations(offers, many):
            lines = [line for line, _, _ in choice]
            if sorted(set(lines)) == sorted(lines):
                found.append(tuple(sorted(choice)))
    return sorted(found, key=lambda choice: (price_of(choice), len(choice), choice))


def price_of(choice):
    return sum(price for _, _, price in choice)


def changed_text(text, choice):
    """The text with all lines of a choice replaced at once."""
    lines = text.split("\n")
    for line, new, _ in choice:
        lines[line - 1] = None if new == "" else new
    return "\n".join(line for line in lines if line is not None)


def counting(page, offers, wishes):
    """(choice, changed page) for each choice that counts, in sequence."""
    found = []
    for choice in all_choices(offers):
        text = changed_text(page.text, choice)
        if first_bad_line(text) is not None:
            continue
        changed = Page(text)
        parts = {part for (terms, _), _ in wishes for part, _ in terms}
        if parts <= set(changed.parts) and possible(changed)[0] == "table":
            found.append((choice, changed))
    return found


def is_same(one, value):
    """Whether a value is just this one, of the same kinds at each depth."""
    if one.__class__ is not value.__class__:
        return False
    if is_kind(one, tuple):
        return len(one) == len(value) and all(is_same(*pair) for pair in zip(one, value))
    return one == value


def is_reason(choice, page, wishes, value):
    """Whether any value tells rightly of a wish that does not come true by a choice."""
    if not is_kind(value, tuple) or len(value) != 3 or not is_same(choice, value[0]) or not is_kind(value[1], int):
        return False
    if not 0 <= value[1] < len(wishes):
        return False
    statement, word = wishes[value[1]]
    return is_right_judged(page, statement, value[2]) and value[2][0] != word


def are_reasons(choices, wishes, value):
    if not is_kind(value, tuple) or len(value) != len(choices):
        return False
    return all(is_reason(choice, page, wishes, reason) for (choice, page), reason in zip(choices, value))


def is_right(page, offers, wishes, value):
    """Whether any value is right to tell of the cheapest changes."""
    choices = counting(page, offers, wishes)
    if not is_kind(value, tuple) or len(value) not in (2, 5):
        return False
    if len(value) == 2:
        return value[0] == "none" and are_reasons(choices, wishes, value[1])
    word, price, choice, told, reasons = value
    if word != "choice" or not is_kind(reasons, tuple) or not is_kind(told, tuple) or len(told) != len(wishes):
        return False
    if len(reasons) >= len(choices) or not are_reasons(choices[:len(reasons)], wishes, reasons):
        return False
    own, changed = choices[len(reasons)]
    if not is_same(own, choice) or not is_same(price_of(own), price):
        return False
    return all(
        is_right_judged(changed, statement, one) and one[0] == wish for (statement, wish), one in zip(wishes, told)
    )
