"""How so many people can be spread over the parts of a page.

What is told of a part is told of it and the part above, or of it and the first one. So from the ends upwards each part
has a set of the numbers that it can have by what stands beneath it, and from the first part downwards each number can
be parted. A set of integers from 0 on is held as one integer, whose bit k tells whether k belongs to the set.
"""

from anyasked.shares import stretch


def set_to(most):
    """The set of all integers from 0 to most."""
    return (1 << (most + 1)) - 1


def members_of(held):
    """The members of a set, ascending."""
    return [number for number in range(held.bit_length()) if held >> number & 1]


def set_of(members):
    """The set of these members."""
    held = 0
    for number in members:
        held |= 1 << number
    return held


def let_by(units, share, whole):
    """The set of the numbers of which a share is right in a whole with so many; all if it is None, for not told."""
    if share is None:
        return set_to(whole)
    if whole == 0:
        return 0
    low, is_low, high, is_high = stretch(units, share)
    least, rest = divmod(low[0] * whole, low[1])
    if rest > 0 or not is_low:
        least += 1
    most, rest = divmod(high[0] * whole, high[1])
    if rest == 0 and not is_high:
        most -= 1
    return set_to(most) & ~set_to(least - 1)


def sums_of(sets, most):
    """The set of the sums, to most, of one member of each of these sets."""
    found = 1
    for held in sets:
        found = added(found, held, most)
    return found


def added(one, other, most):
    """The set of the sums, to most, of a member of one set and one of another."""
    found = 0
    for number in members_of(other):
        found |= one << number
    return found & set_to(most)


def sets_beneath(page, total):
    """For each part but the first one the set of the numbers that it can have by what stands beneath it."""
    sets = {}
    for part in reversed(list(page.parts[1:])):
        sets[part] = set_for(page, sets, part, total)
    return sets


def set_for(page, sets, part, total):
    """The set of the numbers that a part can have by its share of the first part and the sets beneath it."""
    lets = let_by(page.units, page[part][2], total)
    if part in page.ends:
        return lets
    return set_of([many for many in members_of(lets) if can_be_parted(page, sets, part, many)])


def can_be_parted(page, sets, part, many):
    """Whether so many are a sum of one member of each set beneath a part, these being right shares of the sum."""
    return bool(sums_of(sets_within(page, sets, page.beneath(part), many), many) >> many & 1)


def sets_within(page, sets, parts, many):
    """For each of these parts the members of its set that are right shares if so many are in the part above."""
    return [sets[part] & let_by(page.units, page[part][1], many) for part in parts]


def counts_by(page, sets, total):
    """Counts with this total, by sets by which it can be parted."""
    first = page.parts[0]
    held = {first: total}
    for part in page.parts:
        parts = page.beneath(part)
        if parts:
            numbers = parted(sets_within(page, sets, parts, held[part]), held[part])
            held.update(dict(zip(parts, numbers)))
    return tuple([held[end] for end in page.ends])


def parted(sets, many):
    """One member of each of these sets, in sequence, that sum to so many."""
    ahead = [1]
    for held in sets:
        ahead.append(added(ahead[-1], held, many))
    found = []
    rest = many
    for at in reversed(range(len(sets))):
        lets = [number for number in members_of(sets[at]) if number <= rest]
        least = min([number for number in lets if ahead[at] >> (rest - number) & 1])
        found.append(least)
        rest = rest - least
    return found[::-1]


def numbers_beneath(page, sets, part, numbers):
    """The set of the numbers that a part has if the part above has one of these, which can be parted."""
    above = page[part][0]
    others = [other for other in page.beneath(above) if other != part]
    found = 0
    for many in numbers:
        sums = sums_of(sets_within(page, sets, others, many), many)
        own = sets_within(page, sets, [part], many)[0]
        found |= set_of([number for number in members_of(own) if sums >> (many - number) & 1])
    return found
