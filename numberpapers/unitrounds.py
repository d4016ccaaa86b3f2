"""Units as products of powers of a few of them."""

from numberpapers.common import common_part
from numberpapers.errors import NotFit, TooHard, TooMany
from numberpapers.orders import root_by
from numberpapers.powers import power, raised
from numberpapers.primepapers import product_of_powers
from numberpapers.rests import unit_inverse
from numberpapers.steplogs import MOST_STEPS, is_steep, log_in_round, two_exponents
from numberpapers.unitparts import count_rows, unit_parts

MOST_ONES = 1000


def rounds_of(n, known=()):
    """The pairs (g, m) of units g of the orders m of whose powers each unit is in one way a product."""
    return tuple([(g, m) for g, m, _, _ in rounds_by(n, unit_parts(n, known, ()))])


def rounds_by(n, parts):
    """The quadruples (g, m, rows, full) of the rounds; rows tell m, full is the prime power that g belongs to."""
    found = []
    for part in parts:
        full = raised(part[0], part[1])
        for g, rows in part_rounds(part, full):
            found.append((lifted(g, n, full), product_of_powers(rows), rows, full))
    return found


def part_rounds(part, full):
    """The pairs (g, rows) of the rounds of a prime part."""
    p, k, paper, _ = part
    if p > 2:
        rows = count_rows(part)
        return [(root_by(full, rows), rows)]
    if k == 1:
        return []
    two = ((2, 1, paper),)
    return [(3, two)] if k == 2 else [(full - 1, two), (5, ((2, k - 2, paper),))]


def lifted(g, n, full):
    """The number from 0 to n - 1 that is g modulo full, and 1 modulo n divided by full."""
    other = n // full
    return 1 + other * ((g - 1) * unit_inverse(other, full) % full)


def unit_by(n, exponents, known=()):
    """The product of the powers of the rounds' units with these exponents."""
    rounds = rounds_of(n, known)
    if len(exponents) != len(rounds):
        raise NotFit()
    product = 1
    for (g, m), e in zip(rounds, exponents):
        product = product * power(g, e % m, n) % n
    return product


def exponents_in(a, n, known=()):
    """The exponents with which a unit is the product of powers of the rounds' units."""
    rounds = rounds_by(n, unit_parts(n, known, (a,)))
    for _, _, rows, _ in rounds:
        if is_steep(rows):
            raise TooHard(MOST_STEPS)
    return tuple([exponent_of_round(a, g % full, rows, full) for g, _, rows, full in rounds])


def exponent_of_round(a, g, rows, full):
    """The exponent of g in a unit modulo full, a prime power that has g for one of its rounds."""
    if full % 8 != 0:
        return log_in_round(g, a, full, rows)
    s, t = two_exponents(a, full.bit_length() - 1)
    return t if g == 5 else s


def invariants_of(n, known=()):
    """Integers above 1, each dividing the next one, that have the prime powers of the orders of the rounds."""
    powers = {}
    for _, _, rows, _ in rounds_by(n, unit_parts(n, known, ())):
        for q, e, _ in rows:
            powers.setdefault(q, []).append(raised(q, e))
    # The last one gets the greatest power of each prime, the one ahead of it the next one, and so on.
    found = []
    for q in sorted(powers):
        for place, full in enumerate(sorted(powers[q])[::-1]):
            if place == len(found):
                found.append(1)
            found[place] *= full
    return tuple(found[::-1])


def ones_count(m, n, known=()):
    """How many units have the m-th power 1."""
    count = 1
    for _, _, share in shares_of(m, n, known):
        count *= share
    return count


def shares_of(m, n, known):
    """The triples (g, order, share) of the rounds; share is how many powers of g have the m-th power 1."""
    return [(g, order, common_part(m, order)) for g, order in rounds_of(n, known)]


def ones_of(m, n, known=()):
    """The units whose m-th power is 1, ascending."""
    if ones_count(m, n, known) > MOST_ONES:
        raise TooMany(MOST_ONES)
    found = [1]
    for g, order, share in shares_of(m, n, known):
        step = power(g, order // share, n)
        found = [x * power(step, k, n) % n for x in found for k in range(share)]
    return tuple(sorted(found))
