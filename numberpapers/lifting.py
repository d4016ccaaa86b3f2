"""All roots modulo a number, by those modulo the powers of its primes."""

from numberpapers.errors import TooMany
from numberpapers.knownparts import checked_parts
from numberpapers.powers import raised
from numberpapers.rests import unit_inverse
from numberpapers.squareroots import bar_by, height_upto, part_roots

MOST_ROOTS = 5000


def root_rows(a, n, known=()):
    """For each prime part of n the pair (m, rests) that tells the roots of a modulo it; () if a is no square."""
    parts = checked_parts(n, known)
    if bar_by(a, parts) is not None:
        return ()
    return tuple([part_roots(a, q, k) for q, k, _ in parts])


def how_many(a, n, known=()):
    """How many rests by n are roots of a."""
    return count_by(a, checked_parts(n, known))


def count_by(a, parts):
    """How many rests are roots of a modulo a number of these prime parts."""
    if bar_by(a, parts) is not None:
        return 0
    count = 1
    for q, k, _ in parts:
        count *= part_count(a, q, k)
    return count


def part_count(a, q, k):
    """How many rests by q ** k are roots of a, a square modulo q ** k."""
    j = height_upto(a, q, k)
    if j == k:
        return raised(q, k // 2)
    signs = 2 if q > 2 else min(4, 1 << (k - j - 1))
    return signs * raised(q, j // 2)


def all_roots(a, n, known=()):
    """All rests by n that are roots of a, ascending."""
    return roots_by(a, checked_parts(n, known))


def roots_by(a, parts):
    """The same for the prime parts of n."""
    count = count_by(a, parts)
    if count > MOST_ROOTS:
        raise TooMany(MOST_ROOTS)
    if count == 0:
        return ()
    found, product = [0], 1
    for q, k, _ in parts:
        full = raised(q, k)
        factor = unit_inverse(product, full)
        roots = all_of_part(a, q, k)
        found = [x + product * ((r - x) * factor % full) for x in found for r in roots]
        product = product * full
    return tuple(sorted(found))


def all_of_part(a, q, k):
    """All rests by q ** k that are roots of a square a."""
    m, rests = part_roots(a, q, k)
    return [rest + m * lap for rest in rests for lap in range(raised(q, k) // m)]
