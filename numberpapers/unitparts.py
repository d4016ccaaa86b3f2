"""The prime parts of a modulus and the rounds of its units, which the questions on units share."""

from numberpapers.common import common_part
from numberpapers.errors import NotUnit
from numberpapers.knownparts import check_known, told_parts
from numberpapers.powers import power, raised
from numberpapers.primepapers import product_of_powers


def unit_parts(n, known, units):
    """The quadruples (p, k, paper, below) of the prime parts p ** k of n; below are the parts of p - 1, with papers."""
    check_known(known)
    for a in units:
        if common_part(a, n) > 1:
            raise NotUnit()
    return told_unit_parts(n, known)


def told_unit_parts(n, known):
    """The same where nothing is to be refused but numbers that are not told."""
    return tuple([(p, k, paper, told_parts(p - 1, known)) for p, k, paper in told_parts(n, known)])


def count_rows(part):
    """The rows (q, e, paper) of how many units a prime part has."""
    p, k, paper, below = part
    return below if k == 1 else below + ((p, k - 1, paper),)


def exponent_rows(part):
    """The rows (q, e, paper) of the least exponent with which all units of a prime part come to 1."""
    p, k, paper, _ = part
    if p == 2 and k > 2:
        return ((2, k - 2, paper),)
    return count_rows(part)


def joined_rows(lots):
    """The rows (q, e, paper) of the least common multiple of the numbers that several lots of rows tell."""
    found = {}
    for rows in lots:
        for q, e, paper in rows:
            if q not in found or found[q][1] < e:
                found[q] = (q, e, paper)
    return tuple([found[q] for q in sorted(found)])


def product_rows(lots):
    """The rows (q, e, paper) of the product of the numbers that several lots of rows tell."""
    found = {}
    for rows in lots:
        for q, e, paper in rows:
            found[q] = (q, found[q][1] + e, paper) if q in found else (q, e, paper)
    return tuple([found[q] for q in sorted(found)])


def least_rows(rows, comes):
    """The rows of the least d that comes; rows tell a number that does, as all multiples of the least one do."""
    d = product_of_powers(rows)
    found = []
    for q, e, paper in rows:
        left = e
        while left > 0 and comes(d // q):
            d //= q
            left -= 1
        if left > 0:
            found.append((q, left, paper))
    return tuple(found)


def order_rows(a, m, rows):
    """The rows of the order of a unit a of m; rows those of an exponent with which it comes to 1."""
    def comes(d):
        """Whether the d-th power of a is 1."""
        return power(a, d, m) == 1

    return least_rows(rows, comes)


def part_orders(a, parts):
    """For each prime part of a modulus the rows of the order of a unit a."""
    return [order_rows(a, raised(part[0], part[1]), exponent_rows(part)) for part in parts]
