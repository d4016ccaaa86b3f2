"""Numbers of the plane and their parts."""

from numberpapers.errors import ByNought
from numberpapers.kinds import are_numbers, is_between, is_tuple
from numberpapers.knownparts import checked_parts
from numberpapers.powers import raised_upto
from numberpapers.primepapers import is_prime_paper
from numberpapers.trees import MOST_POWER
from numberpapers.twosquares import pair_raised, pair_times, prime_way

NOUGHT = (0, 0)
ONE = (1, 0)
UNITS = ((1, 0), (0, 1), (-1, 0), (0, -1))


def plane_norm(z):
    """The norm."""
    return z[0] * z[0] + z[1] * z[1]


def plane_less(z, w):
    """z less w."""
    return (z[0] - w[0], z[1] - w[1])


def plane_divided(z, w):
    """(q, r) with z = q w + r, and twice the norm of r at most that of w."""
    if w == NOUGHT:
        raise ByNought()
    norm = plane_norm(w)
    entries = pair_times(z, (w[0], -w[1]))
    # The nearest to the true quotient, that of these entries and the norm.
    q = tuple([(2 * entry + norm) // (2 * norm) for entry in entries])
    return (q, plane_less(z, pair_times(q, w)))


def plane_common(z, w):
    """(g, s, t, p, q) with g = s z + t w, z = p g, w = q g."""
    if z == NOUGHT and w == NOUGHT:
        raise ByNought()
    # Each triple has a number and those whose products with z and w add up to it.
    ahead, triple = (z, ONE, NOUGHT), (w, NOUGHT, ONE)
    while triple[0] != NOUGHT:
        q, r = plane_divided(ahead[0], triple[0])
        s = plane_less(ahead[1], pair_times(q, triple[1]))
        t = plane_less(ahead[2], pair_times(q, triple[2]))
        ahead, triple = triple, (r, s, t)
    g, s, t = ahead
    return (g, s, t, plane_divided(z, g)[0], plane_divided(w, g)[0])


def is_plane_parts(z, value):
    """Whether a value is plane parts of z."""
    if not is_tuple(value, 2) or not are_numbers(value[0], 2) or value[0] not in UNITS:
        return False
    unit, rows = value
    if not are_prime_rows(rows) or not has_norm(rows, plane_norm(z)):
        return False
    product = unit
    for prime, e, paper in rows:
        if not is_prime_paper(paper_number(prime), paper):
            return False
        product = pair_times(product, pair_raised(prime, e))
    return product == z


def are_prime_rows(value):
    """Whether a value is a tuple of triples (prime, e, paper) with pairs that may be primes, ascending."""
    if not isinstance(value, tuple):
        return False
    last = NOUGHT
    for row in value:
        if not is_tuple(row, 3) or not is_quarter(row[0]) or not is_between(row[1], 1, MOST_POWER) or row[0] <= last:
            return False
        last = row[0]
    return True


def is_quarter(value):
    """Whether a value is a pair (a, b) with a from 1 and b from 0, a leaving 3 divided by 4 if b is 0."""
    return are_numbers(value, 2) and value[0] > 0 and value[1] >= 0 and (value[1] > 0 or value[0] % 4 == 3)


def has_norm(rows, norm):
    """Whether a norm is the product of the norms of the rows' primes, each as often as its e tells."""
    product = 1
    for prime, e, _ in rows:
        product *= raised_upto(plane_norm(prime), e, norm)
        # Great powers of many rows are not worked out beyond the norm.
        if product > norm:
            return False
    return product == norm


def paper_number(prime):
    """The number whose prime paper stands beside a prime of the plane."""
    return prime[0] if prime[1] == 0 else plane_norm(prime)


def plane_parts(z, known=()):
    """Plane parts of z."""
    rows = []
    for p, _, paper in checked_parts(plane_norm(z), known):
        for prime in primes_over(p):
            z, e = divided_out(z, prime)
            if e > 0:
                rows.append((prime, e, paper))
    return (z, tuple(sorted(rows)))


def primes_over(p):
    """The primes of the plane, with entries from 0 on, the first one above 0, that divide a prime p."""
    if p == 2:
        return [(1, 1)]
    if p % 4 == 3:
        return [(p, 0)]
    a, b = prime_way(p)
    return [(a, b), (b, a)]


def divided_out(z, prime):
    """z divided by a prime as often as it divides, and how often it does."""
    e = 0
    q, r = plane_divided(z, prime)
    while r == NOUGHT:
        z = q
        e += 1
        q, r = plane_divided(z, prime)
    return (z, e)
