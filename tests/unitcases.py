"""Moduli for the questions on units [55]: with their primes, and with what must be known for them."""

import math

from tests.hard import HARD, HARD_PAPER, HARDER, HARDER_PAPER
from tests.judges import KNOWN, P, Q, R, told_by, tried
from tests.test_soft import next_prime, soft_prime

GREAT = soft_prime(39)
MIDDLE = soft_prime(19)
STEEP = next_prime(10 ** 6) * 2 + 1
while not all(STEEP % p for p in range(2, 2000)):
    STEEP = next_prime((STEEP - 1) // 2) * 2 + 1

# Great moduli that need nothing known, by their prime parts.
GREATS = (
    ((2, 132),), ((2, 1), (3, 82)), ((3, 83),), ((2, 40), (5, 40)), ((2, 2), (7, 46)), ((GREAT, 1),), ((2, 1), (GREAT, 1)),
    ((MIDDLE, 2),), ((2, 3), (3, 2), (MIDDLE, 1)), ((40487, 8),), ((2, 5), (99991, 7)), tuple((p, 1) for p in (2, 3, 5, 7, 11, 13)),
    tuple((p, 1) for p in (3, 5, 7, 11, 13, 17, 19, 23, 29, 31, 37, 41, 43, 47, 53, 59, 61, 67, 71, 73, 79, 83, 89, 97)),
    ((2, 4), (3, 3), (5, 2), (7, 2), (11, 1), (101, 3), (257, 2), (65537, 1)), ((3, 2), (P, 1)), ((P, 5),), ((STEEP, 1),), ((STEEP, 3),),
)

# Prime parts and known primes that are enough.
NEEDED = (
    (((P, 1), (Q, 1)), tried(P)), (((P, 1), (Q, 1)), tried(2, P, Q, R)), (((2, 3), (P, 2), (Q, 3)), tried(Q)),
    (((HARD, 1),), tried(P) + ((HARD, HARD_PAPER),)), (((HARD, 1),), tried(P, Q) + ((HARD, HARD_PAPER),)),
    (((3, 1), (HARD, 2)), tried(2, Q, R) + ((HARD, HARD_PAPER),)), (((P, 1), (HARD, 1)), tried(P) + ((HARD, HARD_PAPER),)),
    (((HARDER, 1),), tried(Q) + ((HARDER, HARDER_PAPER),)),
)
# n is told, but not what is less by 1 than one of its primes; or n is not told, though that is.
LACKING = (
    (((HARD, 1),), ()), (((HARD, 1),), ((HARD, HARD_PAPER),)), (((HARD, 1),), KNOWN), (((P, 1), (Q, 1)), ()), (((P, 1), (Q, 1)), tried(2, R)),
    (((5, 1), (HARD, 1)), tried(R) + ((HARD, HARD_PAPER),)), (((HARDER, 1),), ((HARDER, HARDER_PAPER),)),
)


def number(parts):
    return math.prod(p ** e for p, e in parts)


def is_told(parts, known=()):
    """Whether n, and p - 1 for all its primes p, are told by known."""
    primes = [q for q, _ in known]
    return told_by(number(parts), primes) and all(told_by(p - 1, primes) for p, _ in parts)


def count_parts(parts, known=()):
    """How many units each prime part has, and the primes of these numbers."""
    found = []
    for p, k in parts:
        primes = [q for q, _ in small_parts(p - 1, known)] + ([p] if k > 1 else [])
        found.append((p ** (k - 1) * (p - 1), primes))
    return found


def small_parts(n, known):
    """The prime parts of a number; its great primes are known, but for one."""
    found = []
    for q in [q for q, _ in known] + [MIDDLE, GREAT]:
        e = 0
        while n % q == 0:
            n, e = n // q, e + 1
        if e:
            found.append((q, e))
    left = []
    for q in range(2, 10 ** 5):
        e = 0
        while n % q == 0:
            n, e = n // q, e + 1
        if e:
            left.append((q, e))
        if n == 1:
            break
    return found + left + ([(n, 1)] if n > 1 else [])


def unit_of(n, source):
    """Some unit, also below 0 or above n."""
    while True:
        a = source.randrange(-10 ** 41, 10 ** 41 + 1)
        if math.gcd(a, n) == 1:
            return a


def smalls():
    """Small moduli with their units."""
    for n in list(range(2, 130)) + [243, 256, 343, 360, 500, 504, 512, 720, 1000]:
        yield n, [a for a in range(n) if math.gcd(a, n) == 1]


def ordered(n, parts, known, a):
    """The order of a unit by the primes of how many units there are."""
    d = math.lcm(*[count for count, _ in count_parts(parts, known)])
    for _, primes in count_parts(parts, known):
        for q in primes:
            while d % q == 0 and pow(a, d // q, n) == 1:
                d //= q
    return d


def cases():
    """All great moduli with what is known."""
    return [(parts, ()) for parts in GREATS] + list(NEEDED)
