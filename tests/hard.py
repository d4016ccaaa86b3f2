"""Numbers that need known primes, with these primes and more of them, and a tall tower of soft primes."""

from numberpapers.primepapers import paper_by, told_prime
from tests.judges import KNOWN, P, Q, R, tried
from tests.primes import is_prime

# Each p is k times the p ahead of it and 1 more, the first one 10000000019; all are prime, and so soft.
TOWER = (
    8, 12, 18, 4, 18, 4, 12, 118, 18, 10, 8, 38, 26, 50, 18, 24, 46, 42, 154, 12, 24, 40, 8, 54, 18, 136, 80, 8, 122, 50, 48,
    340, 98, 2, 38, 90, 90, 96, 180, 36, 126, 102, 64, 158, 156, 264, 24, 4, 48, 4, 48, 10, 6, 10, 8, 402, 604, 30, 18, 60,
    562, 56, 170, 66, 48, 96, 184, 2, 96, 6, 892, 110, 8, 678, 34, 542, 66, 124, 66, 82, 854, 570, 1192, 182, 276, 576, 72,
    814, 224, 260, 420, 862, 702, 294, 288, 942, 414, 220, 60, 418, 1578, 852, 58, 300, 46, 116, 36, 328, 120, 582, 870, 606,
    106, 774, 712, 54, 210, 112, 240, 178, 168, 154, 260, 72, 72, 244, 98, 210, 172, 126, 184, 894, 60, 592, 266, 834, 1348,
    950, 128, 284, 14, 2000, 336, 310, 536,
)


def tower():
    """The primes of the tower."""
    p, found = 10000000019, [10000000019]
    for k in TOWER:
        p = k * p + 1
        found.append(p)
    return found


def prime_by(q, step=2, sign=1):
    """The least prime k * q + sign, k from step on by steps of 2."""
    while not is_prime(step * q + sign):
        step += 2
    return step * q + sign


# Primes p such that p - 1 is not soft, but told by P.
HARD = prime_by(P * Q)
HARDER = prime_by(Q * R * 10 ** 15, 10 ** 6)
HARD_PAPER = paper_by(HARD, KNOWN)
HARDER_PAPER = paper_by(HARDER, tried(2, 5, Q, R))
# A prime with a soft forerunner, so that it need not be known.
SOFT = prime_by(10 ** 20)

# n, the primes that are enough, and more than enough; without them n is not told.
CASES = (
    (P * Q, tried(P), tried(3, P, Q)),
    (P * Q, tried(Q), tried(2, 5, 11, P, Q, R)),
    (6 * P * P * Q ** 3, tried(P), KNOWN),
    (P * Q * R, tried(P, R), tried(2, P, Q, R)),
    (P * Q * R, tried(P, Q), tried(P, Q, R)),
    ((P * Q) ** 4, tried(Q), tried(P, Q)),
    (HARD, ((HARD, HARD_PAPER),), tried(P) + ((HARD, HARD_PAPER),)),
    (HARD ** 2 * 12, ((HARD, HARD_PAPER),), tried(2, 3) + ((HARD, HARD_PAPER),)),
    (HARD * P, tried(P) + ((HARD, HARD_PAPER),), tried(2, P, Q) + ((HARD, HARD_PAPER),)),
    (SOFT * P, tried(P), tried(P) + ((SOFT, told_prime(SOFT)[1]),)),
    (SOFT * P, ((SOFT, told_prime(SOFT)[1]),), tried(P) + ((SOFT, told_prime(SOFT)[1]),)),
    (SOFT * HARD, ((HARD, HARD_PAPER),), ((HARD, HARD_PAPER), (SOFT, told_prime(SOFT)[1]))),
    (HARDER, ((HARDER, HARDER_PAPER),), tried(P, R) + ((HARDER, HARDER_PAPER),)),
    (HARD - 1, tried(P), KNOWN),
)
