"""Texts of pages for the tests: made at random by a seed, and read a second way."""

import re

HOWS = ("near", "even", "down", "up")
LETTERS = "abcdefghijklmnopqrstuvwxyz"
EXAMPLE = (
    "in 100 near\nasked all\npart yes of all is 40\npart no of all is 35\npart open of all\n"
    "part young of yes is 62\npart old of yes"
)
WORDS = ("of", "is", "all", "part", "asked", "in", "near", "none", "some", "a", "z")

_NUMBER = "(0|[1-9][0-9]*)"
_SHARE = "(0|[1-9][0-9]*|none|some)"
_UNITS = re.compile(f"in {_NUMBER} (near|even|down|up)")
_ASKED = re.compile("asked ([a-z]{1,8})")
_PART = re.compile(f"part ([a-z]{{1,8}}) of ([a-z]{{1,8}})(?: is {_SHARE})?(?: all {_SHARE})?")


def ends_of_tree(above):
    """The parts with none beneath, above telling the part above each one."""
    return tuple(part for part in above if part not in above.values())


def depth(above, part):
    """How many steps a part is beneath the first one."""
    return 0 if above[part] is None else 1 + depth(above, above[part])


def first_bad_line(text):
    """The number of the first line that cannot stand there, or None if the text is one of a page."""
    lines = text.split("\n")
    units = _UNITS.fullmatch(lines[0])
    if units is None or not 2 <= int(units[1]) <= 100:
        return 1
    if len(lines) == 1 or _ASKED.fullmatch(lines[1]) is None:
        return 2
    above = {_ASKED.fullmatch(lines[1])[1]: None}
    for number in range(2, len(lines)):
        found = _PART.fullmatch(lines[number])
        if number == 11 or found is None or found[1] in above or found[2] not in above:
            return number + 1
        for share in (found[3], found[4]):
            if share not in (None, "none", "some") and int(share) > int(units[1]):
                return number + 1
        above[found[1]] = found[2]
        if depth(above, found[1]) > 3 or len(ends_of_tree(above)) > 6:
            return number + 1
    return 3 if len(lines) == 2 else None


def random_share(chance, base):
    kind = chance.randrange(6)
    if kind < 3:
        return chance.randint(0, base)
    return (None, "none", "some")[kind - 3]


def random_name(chance):
    if chance.random() < 0.3:
        return chance.choice(WORDS)
    return "".join(chance.choice(LETTERS) for _ in range(chance.choice((1, 2, 3, 7, 8))))


def random_page(chance):
    """(units, lines) of a page: lines a dict of (above, share, far) by part."""
    base = chance.choice((2, 3, 10, 64, 99, 100))
    lines = {random_name(chance): (None, None, None)}
    above = {part: None for part in lines}
    many = chance.randint(1, 9)
    # Six ends three steps beneath leave no place for a part: the tries are counted.
    for _ in range(10 * many):
        if len(lines) > many:
            break
        name, over = random_name(chance), chance.choice(list(lines))
        trial = dict(above)
        trial[name] = over
        if name in lines or depth(trial, name) > 3 or len(ends_of_tree(trial)) > 6:
            continue
        above = trial
        lines[name] = (over, random_share(chance, base), random_share(chance, base))
    return (base, chance.choice(HOWS)), lines


def text_of(units, lines):
    """The text of a page."""
    rows = ["in " + str(units[0]) + " " + units[1]]
    for part, (above, share, far) in lines.items():
        if above is None:
            rows.append("asked " + part)
            continue
        words = ["part", part, "of", above]
        if share is not None:
            words += ["is", str(share)]
        if far is not None:
            words += ["all", str(far)]
        rows.append(" ".join(words))
    return "\n".join(rows)
