"""Sums of two squares, their ways, and roots of -1."""

from math import isqrt

from numberpapers.common import common_part
from numberpapers.errors import NotProper, NotRoot, TooMany
from numberpapers.kinds import is_between, is_from, is_told, is_tuple
from numberpapers.knownparts import check_known, told_parts
from numberpapers.powers import power, raised
from numberpapers.primepapers import is_prime_paper
from numberpapers.rests import pairs_upto, unit_inverse
from numberpapers.trees import MOST_POWER
from numberpapers.trials import height_in

MOST_WAYS = 5000


def is_two_paper(n, value):
    """Whether a value is a two paper of n."""
    if is_told(value, "is", 2):
        return is_way_told(n, value[1])
    return is_told(value, "not", 2) and n > 0 and is_bar_told(n, value[1])


def is_way_told(n, value):
    """Whether a value is a pair of numbers from 0, the first one not greater, whose squares add up to n."""
    if not is_tuple(value, 2) or not is_from(value[0], 0) or not is_from(value[1], value[0]):
        return False
    return value[0] * value[0] + value[1] * value[1] == n


def is_bar_told(n, value):
    """Whether a value tells a prime of n, with its paper, for which n is no sum of two squares."""
    if not is_tuple(value, 3):
        return False
    p, e, paper = value
    if not is_from(p, 3) or p % 4 != 3 or not is_between(e, 1, MOST_POWER) or e % 2 == 0:
        return False
    return e == height_in(n, p) and is_prime_paper(p, paper)


def two_paper(n, known=()):
    """A two paper of n."""
    check_known(known)
    return ("is", (0, 0)) if n == 0 else two_by(told_parts(n, known))


def two_by(parts):
    """A two paper of a number from 1 on by its prime parts with papers."""
    for p, e, paper in parts:
        if p % 4 == 3 and e % 2 == 1:
            return ("not", (p, e, paper))
    way = rest_way([(p, e) for p, e, _ in parts])
    for p, e, _ in parts:
        if p % 4 == 1:
            way = pair_times(way, pair_raised(prime_way(p), e))
    return ("is", ordered(way))


def pair_times(one, other):
    """The product of two pairs (a, b) that stand for a + b i, i i being -1."""
    (a, b), (c, d) = one, other
    return (a * c - b * d, a * d + b * c)


def pair_raised(pair, e):
    """The e-th power of such a pair."""
    found = (1, 0)
    for _ in range(e):
        found = pair_times(found, pair)
    return found


def ordered(way):
    """A way with the same squares, from 0 on and ascending."""
    x, y = abs(way[0]), abs(way[1])
    return (min(x, y), max(x, y))


def prime_way(p):
    """A way of a prime p that leaves 1 divided by 4, both numbers above 0."""
    x, y = from_root(p, root_below(p))
    return (abs(x), abs(y))


def root_below(p):
    """A root of -1 modulo a prime p that leaves 1 divided by 4."""
    z = 2
    while True:
        r = power(z, (p - 1) // 4, p)
        if r * r % p == p - 1:
            return r
        z += 1


def rest_way(parts):
    """A way of what the primes that do not leave 1 divided by 4 make up, those that leave 3 with even exponents."""
    way = (1, 0)
    for p, e in parts:
        if p == 2:
            way = pair_times(way, pair_raised((1, 1), e))
        elif p % 4 == 3:
            way = pair_times(way, (raised(p, e // 2), 0))
    return way


def from_root(n, r):
    """A way (x, y) of n for which n divides x - r * y."""
    if (r * r + 1) % n != 0:
        raise NotRoot()
    # The first pair below the root of n: the sum of its squares is a multiple of n, and below 2 * n.
    _, pair = pairs_upto(r, n, isqrt(n))
    return pair


def to_root(n, x, y):
    """The r from 0 to n - 1 for which n divides x - r * y, for a proper way of n."""
    if x * x + y * y != n or common_part(x, y) > 1:
        raise NotProper()
    return x * unit_inverse(y, n) % n


def all_two(parts):
    """All ways (x, y) of a number, told by its primes, with x from 0 and x at most y, ascending."""
    # Signs and sequence make eight ways of one, but four of one with 0 or with two equal numbers.
    count = (count_two(parts) // 4 + 1) // 2
    if count > MOST_WAYS:
        raise TooMany(MOST_WAYS)
    if count == 0:
        return ()
    found = [rest_way(parts)]
    for p, e in parts:
        if p % 4 == 1:
            factors = power_ways(p, e)
            found = [pair_times(way, factor) for way in found for factor in factors]
    return tuple(sorted(set([ordered(way) for way in found])))


def power_ways(p, e):
    """All ways of p ** e, p leaving 1 divided by 4, but for those that products with i make of one another."""
    x, y = prime_way(p)
    return [pair_times(pair_raised((x, y), k), pair_raised((x, -y), e - k)) for k in range(e + 1)]


def count_two(parts):
    """How many ways a number, told by its primes, has, signs and sequence counted."""
    count = 4
    for p, e in parts:
        if p % 4 == 1:
            count *= e + 1
        elif p % 4 == 3 and e % 2 == 1:
            return 0
    return count


def count_proper(parts):
    """How many of them are proper."""
    count = 4
    for p, e in parts:
        if p % 4 == 3 or p == 2 and e > 1:
            return 0
        if p % 4 == 1:
            count *= 2
    return count
