"""Logarithms in the round of one unit's powers, prime by prime."""

from math import isqrt

from numberpapers.powers import power, raised
from numberpapers.primepapers import product_of_powers
from numberpapers.rests import together

# Primes of an order up to this are gone through by steps.
MOST_STEPS = 10 ** 6


def is_steep(rows):
    """Whether a number, told by rows that begin with its primes, has a prime above 10 ** 6."""
    for row in rows:
        if row[0] > MOST_STEPS:
            return True
    return False


def log_in_round(a, b, m, rows):
    """The e from 0 below the order of a with a ** e equal to b, a power of a, modulo m; rows tell the order."""
    d = product_of_powers(rows)
    rests = [(0, 1)]
    for q, e, _ in rows:
        full = raised(q, e)
        rests.append((log_of_part(power(a, d // full, m), power(b, d // full, m), m, q, e), full))
    x, _ = together(tuple(rests))
    return x


def two_exponents(a, k):
    """The pair (s, t), s 0 or 1, with an odd a equal to (-1) ** s * 5 ** t modulo 2 ** k, k from 3 on."""
    s = 1 if a % 4 == 3 else 0
    return (s, log_in_round(5, -a if s == 1 else a, 1 << k, ((2, k - 2, ()),)))


def log_of_part(a, b, m, q, e):
    """The same for an order of q ** e."""
    first = raised(q, e - 1)
    table, width, leap = steps_of(power(a, first, m), m, q)
    found = 0
    place = 1
    # Digit by digit to the base q, the least one first.
    for _ in range(e):
        rest = b * power(a, first * q - found, m) % m
        found += place * digit_by_steps(power(rest, first // place, m), m, table, width, leap)
        place = place * q
    return found


def steps_of(g, m, q):
    """The first powers of g with their exponents, how many they are, and what leaps back over so many."""
    width = isqrt(q - 1) + 1
    table = {}
    found = 1 % m
    for k in range(width):
        table[found] = k
        found = found * g % m
    # g has the order q.
    return (table, width, power(g, (q - width) % q, m))


def digit_by_steps(h, m, table, width, leap):
    """The exponent of a power h of g, by the steps of g."""
    leaps = 0
    while h not in table:
        h = h * leap % m
        leaps += 1
    return leaps * width + table[h]
