"""How many units there are, and when all of them come to 1."""

from math import gcd

from numberpapers.primepapers import product_of_powers
from numberpapers.unitparts import count_rows, exponent_rows, joined_rows, unit_parts


def unit_count(n, known=()):
    """How many units n has."""
    count = 1
    for part in unit_parts(n, known, ()):
        count *= product_of_powers(count_rows(part))
    return count


def unit_exponent(n, known=()):
    """The least m from 1 on for which the m-th power of every unit of n is 1."""
    return product_of_powers(joined_rows([exponent_rows(part) for part in unit_parts(n, known, ())]))


def units_of(n):
    """All units of n, ascending."""
    return tuple([a for a in range(n) if gcd(a, n) == 1])
