"""Chains of roots."""

from math import isqrt

from numberpapers.errors import IsSquare, TooMany

MOST_ENTRIES = 5000


def surd_chain(N):
    """The greatest integer below the root of N, and the period of the rest of its chain."""
    head, period = chain_upto(0, 1, N, MOST_ENTRIES + 1)
    return (head[0], period)


def surd_row(P, Q, N):
    """The head and the period of the chain of (P + the root of N) / Q."""
    check_no_square(N)
    if (N - P * P) % Q != 0:
        P, Q, N = P * abs(Q), Q * abs(Q), N * Q * Q
    return chain_upto(P, Q, N, MOST_ENTRIES)


def check_no_square(N):
    """Refuse a square."""
    root = isqrt(N)
    if root * root == N:
        raise IsSquare(root)


def chain_upto(P, Q, N, most):
    """Head and period, at most so many entries together, of (P + the root of N) / Q; Q divides N - P * P."""
    check_no_square(N)
    root = isqrt(N)
    places = {}
    found = []
    # A chain comes again exactly where its number does.
    while (P, Q) not in places:
        if len(found) == most:
            raise TooMany(MOST_ENTRIES)
        places[(P, Q)] = len(found)
        quotient = (P + root) // Q if Q > 0 else (P + root + 1) // Q
        found.append(quotient)
        P = quotient * Q - P
        Q = (N - P * P) // Q
    size = places[(P, Q)]
    return (tuple(found[:size]), tuple(found[size:]))
