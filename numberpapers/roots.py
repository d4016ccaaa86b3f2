"""Roots of rows; powers with papers."""

from math import isqrt

from numberpapers.digits import number_of, row_of
from numberpapers.kinds import are_numbers, is_from, is_told, is_tuple
from numberpapers.powers import raised, raised_upto
from numberpapers.sieves import sieve


def square_root(row):
    """The rows of the root of a number's greatest square, and of what is left of the number."""
    n = number_of(row)
    s = isqrt(n)
    return (row_of(s, row[0]), row_of(n - s * s, row[0]))


def root(row, k):
    """The rows of the root of a number's greatest k-th power, and of what is left of the number."""
    n = number_of(row)
    s = whole_root(n, k)
    return (row_of(s, row[0]), row_of(n - raised(s, k), row[0]))


def whole_root(n, k):
    """The greatest s whose k-th power is not above n."""
    figures = n.bit_length() // k + 1
    if figures <= 8:
        return figured_root(n, k, figures)
    half = figures // 2
    # The root of the first figures tells the first half of those of the root, from above.
    s = (whole_root(n >> k * half, k) + 1) << half
    while True:
        nearer = ((k - 1) * s + n // raised(s, k - 1)) // k
        if nearer >= s:
            return s
        s = nearer


def figured_root(n, k, figures):
    """The greatest s of so many binary figures whose k-th power is not above n."""
    s = 0
    for place in reversed(range(figures)):
        greater = s + (1 << place)
        if raised_upto(greater, k, n) <= n:
            s = greater
    return s


def is_power_paper(n, value):
    """Whether a value is a power paper of n."""
    primes = sieve(n.bit_length())
    if is_told(value, "power", 3):
        _, m, q = value
        if not is_from(m, 2) or not is_from(q, 2) or q not in primes:
            return False
        return raised_upto(m, q, n) == n
    if not is_told(value, "none", 2) or not is_tuple(value[1], len(primes)):
        return False
    for prime, pair in zip(primes, value[1]):
        if not are_numbers(pair, 2) or pair[0] != prime or not lies_between(n, pair[1], prime):
            return False
    return True


def lies_between(n, m, q):
    """Whether n lies between the q-th power of m, from 1 on, and the next one."""
    return m >= 1 and raised_upto(m, q, n) < n and raised_upto(m + 1, q, n) > n


def power_paper(n):
    """A power paper of n."""
    rows = []
    for q in sieve(n.bit_length()):
        m = whole_root(n, q)
        if raised(m, q) == n:
            return ("power", m, q)
        rows.append((q, m))
    return ("none", tuple(rows))


def whole_power(n):
    """(m, e) with n = m ** e and the greatest e."""
    m, e = n, 1
    paper = power_paper(m)
    while paper[0] == "power":
        m, e = paper[1], e * paper[2]
        paper = power_paper(m)
    return (m, e)
