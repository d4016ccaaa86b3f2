"""Divisors and their sums."""

from numberpapers.errors import TooMany
from numberpapers.knownparts import checked_parts
from numberpapers.powers import raised

MOST_DIVISORS = 10000


def divisors(n, known=()):
    """All divisors of n, ascending."""
    parts = checked_parts(n, known)
    if sum_by(parts, 0) > MOST_DIVISORS:
        raise TooMany(MOST_DIVISORS)
    found = [1]
    for p, e, _ in parts:
        powers = [raised(p, k) for k in range(e + 1)]
        found = [d * power for d in found for power in powers]
    return tuple(sorted(found))


def divisor_sum(n, k, known=()):
    """The sum of the k-th powers of all divisors of n."""
    return sum_by(checked_parts(n, known), k)


def sum_by(parts, k):
    """The same for the prime parts of n."""
    total = 1
    for p, e, _ in parts:
        total *= sum([raised(p, j * k) for j in range(e + 1)])
    return total


def moebius(n, known=()):
    """0 if a square above 1 divides n, otherwise 1 or -1, by the number of its primes."""
    parts = checked_parts(n, known)
    for _, e, _ in parts:
        if e > 1:
            return 0
    return 1 if len(parts) % 2 == 0 else -1
