"""Perfect numbers."""

from numberpapers.divisors import sum_by
from numberpapers.families import mersenne
from numberpapers.knownparts import checked_parts


def perfect_paper(n, known=()):
    """("is", paper) or ("not", paper), by whether the sum of the divisors of n is 2 * n."""
    return perfect_by(n, checked_parts(n, known))


def perfect_by(n, parts):
    """The same for the prime parts of n."""
    return ("is" if sum_by(parts, 1) == 2 * n else "not", ("sum", ("whole parts", n, parts)))


def euclid_number(p):
    """The number that is perfect if 2 ** p - 1 is prime."""
    return ((1 << p) - 1) << (p - 1)


def even_perfect(most):
    """All even perfect numbers up to most, ascending."""
    found = []
    p = 2
    while euclid_number(p) <= most:
        if p == 2 or mersenne(p)[0] == "prime":
            found.append(euclid_number(p))
        p += 1
    return tuple(found)
