"""How many were asked: which totals can be, and of what all of them are multiples."""

from math import gcd

from anyasked.deciding import decided
from anyasked.errors import BadTotal, NoPart, NoTable
from anyasked.kinds import is_integer
from anyasked.possible import possible
from anyasked.rows import are_so, rows
from anyasked.spreads import can_be_parted, counts_by, members_of, numbers_beneath, set_for, set_of, sets_beneath

MOST_TOTAL = 150


def step(page):
    """The greatest integer of which the totals of all tables that fit are multiples."""
    if possible(page)[0] == "never":
        raise NoTable(None)
    ends = len(page.ends)
    basis = [[int(at == end) for at in range(ends)] for end in range(ends)]
    for weights in forced_rows(page):
        basis = with_sum_zero(weights, basis)
    common = 0
    for vector in basis:
        common = gcd(common, sum(vector))
    return common


def forced_rows(page):
    """The weights of the rows whose sum is 0 in all tables that fit."""
    told = rows(page)
    least = [weights for weights, word in told if word == "least"]
    return [weights for weights in least if decided(told + ((weights, "more"),))[0] == "never"]


def with_sum_zero(weights, basis):
    """A basis of what this one makes with the sum 0 by these weights, all by integers of any sign."""
    found = []
    held = basis[0]
    for vector in basis[1:]:
        held, zero = cleared(weights, held, vector)
        found.append(zero)
    if sum_by(weights, held) == 0:
        found.append(held)
    return found


def cleared(weights, held, vector):
    """Two vectors that make what these two make, the latter with the sum 0: by Euclid's steps on both sums."""
    while sum_by(weights, vector) != 0:
        times = sum_by(weights, held) // sum_by(weights, vector)
        held, vector = vector, [here - times * there for here, there in zip(held, vector)]
    return held, vector


def sum_by(weights, vector):
    """The sum of the numbers of a vector, each times its weight."""
    return sum([weight * number for weight, number in zip(weights, vector)])


def can(page, total):
    """("can", counts) that fit, with this total, or ("never", sets)."""
    refuse(total)
    first = page.parts[0]
    sets = sets_beneath(page, total)
    if can_be_parted(page, sets, first, total):
        return "can", counts_by(page, sets, total)
    sets[first] = set_for(page, sets, first, total)
    return "never", tuple([tuple(members_of(sets[part])) for part in page.parts])


def shows_can(page, total, value):
    """Whether any value tells rightly whether so many can have been asked."""
    refuse(total)
    if not isinstance(value, tuple) or len(value) != 2:
        return False
    word, found = value
    if word == "can":
        return are_so(page, (), found) and sum(found) == total
    return word == "never" and are_sets(page, total, found)


def counts_at(page, total, part):
    """All numbers that a part has in tables that fit with this total, ascending."""
    refuse(total)
    if part not in page:
        raise NoPart(part)
    sets = sets_beneath(page, total)
    if not can_be_parted(page, sets, page.parts[0], total):
        return ()
    numbers = [total]
    for beneath in way_down(page, part):
        numbers = members_of(numbers_beneath(page, sets, beneath, numbers))
    return tuple(numbers)


def totals(page, low, high):
    """The totals from low to high of which some table fits, ascending."""
    refuse(low)
    refuse(high)
    if high < low:
        raise BadTotal(high)
    return tuple([total for total in range(low, high + 1) if is_total(page, total)])


def refuse(value):
    """Raises BadTotal for what is no total that can be asked about."""
    if not is_integer(value) or not 1 <= value <= MOST_TOTAL:
        raise BadTotal(value)


def is_total(page, total):
    """Whether some table that fits has this total."""
    return can_be_parted(page, sets_beneath(page, total), page.parts[0], total)


def way_down(page, part):
    """The parts from beneath the first one down to this one; none for the first one."""
    way = []
    while page[part][0] is not None:
        way.append(part)
        part = page[part][0]
    return way[::-1]


def are_sets(page, total, value):
    """Whether any value is a tuple of the numbers of each part, by which there is none with this total."""
    if not isinstance(value, tuple) or len(value) != len(page.parts):
        return False
    if not all([are_numbers(numbers, total) for numbers in value]):
        return False
    sets = {part: set_of(numbers) for part, numbers in zip(page.parts, value)}
    if total in value[0]:
        return False
    return all([holds(sets[part], set_for(page, sets, part, total)) for part in page.parts])


def are_numbers(value, total):
    """Whether any value is an ascending tuple of integers from 0 to total."""
    if not isinstance(value, tuple):
        return False
    if not all([is_integer(number) and 0 <= number <= total for number in value]):
        return False
    return all([here < behind for here, behind in zip(value, value[1:])])


def holds(held, needed):
    """Whether a set has all members of another one."""
    return held | needed == held
