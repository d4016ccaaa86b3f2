"""Endless rows of figures."""

from math import gcd

from numberpapers.errors import NotUnit, TooMany
from numberpapers.heights import check_prime
from numberpapers.powers import raised
from numberpapers.rests import unit_inverse


def endless_row(p, a, b, most):
    """The least form (head, round) of the row of a / b."""
    check_prime(p)
    if b % p == 0:
        raise NotUnit()
    inverse = unit_inverse(b, p)
    places = {}
    found = []
    # What is left is always that number divided by b, so the row comes again exactly where the number does.
    while a not in places:
        if len(found) == most:
            raise TooMany(most)
        places[a] = len(found)
        figure = a * inverse % p
        found.append(figure)
        a = (a - figure * b) // p
    return (tuple(found[:places[a]]), tuple(found[places[a]:]))


def endless_fraction(p, row):
    """The ratio in lowest terms whose row this is."""
    check_prime(p)
    head, again = row
    ahead, full = raised(p, len(head)), raised(p, len(again))
    # The round, again and again, is its number divided by 1 - full.
    a = number_by(p, head) * (full - 1) - ahead * number_by(p, again)
    common = gcd(a, full - 1)
    return (a // common, (full - 1) // common)


def number_by(p, digits):
    """The number of figures to the base p, the least one first."""
    found = 0
    for digit in reversed(list(digits)):
        found = found * p + digit
    return found
