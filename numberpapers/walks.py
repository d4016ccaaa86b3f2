"""Parts of numbers by walks and by powers."""

from math import gcd

from numberpapers.powers import power


def walk_part(n, c, start, most):
    """What the first common part above 1 of n and the way from one place of a walk to that of twice its index tells."""
    slow = fast = start
    for k in range(1, most + 1):
        slow = (slow * slow + c) % n
        fast = (fast * fast + c) % n
        fast = (fast * fast + c) % n
        common = gcd(n, fast - slow)
        if common > 1:
            return told_common(n, k, common)
    return ("none",)


def told_common(n, k, common):
    """The answer for a common part above 1 at k."""
    return ("part", k, common) if common < n else ("whole", k)


def walk_shape(n, c, start):
    """How many steps a walk goes ahead of its round, and how many the round has."""
    places = {}
    x = start
    while x not in places:
        places[x] = len(places)
        x = (x * x + c) % n
    return (places[x], len(places) - places[x])


def powers_part(n, a, most):
    """What the first common part above 1 of n and a power, less 1, tells; the exponents are 1, 1 * 2, 1 * 2 * 3, .."""
    found = a
    for k in range(1, most + 1):
        found = power(found, k, n)
        common = gcd(n, found - 1)
        if common > 1:
            return told_common(n, k, common)
    return ("none",)
