"""Soft numbers: those whose parts can be told."""

from numberpapers.powers import power
from numberpapers.roots import whole_power
from numberpapers.witnesses import is_strong

# Primes up to this are tried one by one, so what is left below its square is prime.
TRIED = 10 ** 5
SURE = 10 ** 10

TWELVE = (2, 3, 5, 7, 11, 13, 17, 19, 23, 29, 31, 37)

# The remainders by 30 of the numbers that 2, 3 and 5 do not divide.
APART = (1, 7, 11, 13, 17, 19, 23, 29)


def divisor_from(n, low, most):
    """The least prime up to most that divides n, or 0; n, from 2 on, has none below low."""
    for prime in (2, 3, 5):
        if n % prime == 0:
            return prime if prime <= most else 0
    for start in range(low - low % 30, most + 1, 30):
        if start * start > n:
            return n if n <= most else 0
        for remainder in APART:
            d = start + remainder
            if n % d == 0 and d > 1:
                return d if d <= most else 0
    return 0


def taken_upto(n, most):
    """The pairs (p, e) of the primes up to most with their full powers in n, and what is left of n."""
    row = []
    left = n
    p = divisor_from(left, 2, most) if left > 1 else 0
    while p > 0:
        e = 0
        while left % p == 0:
            left //= p
            e += 1
        row.append((p, e))
        p = divisor_from(left, p, most) if left > 1 else 0
    return (tuple(row), left)


def leftover_of(n):
    """The pairs (p, e) of the primes up to 10 ** 5 with their full powers in n, and the leftover of n."""
    return taken_upto(n, TRIED)


def passes_twelve(n):
    """Whether none of the twelve primes up to 37 is the number of a strong witness of n."""
    return witness_of_twelve(n) == 0


def witness_of_twelve(n):
    """The first of the twelve primes that is the number of a strong witness of n, or 0."""
    for a in TWELVE:
        if a <= n - 2 and is_strong(n, a):
            return a
    return 0


def is_soft(n):
    """Whether n is soft."""
    return soft_parts(n) is not None


def soft_parts(n):
    """The pairs (p, e) of all primes that divide n with their full powers, or None if n is not soft."""
    row, left = leftover_of(n)
    if left == 1:
        return row
    r, k = whole_power(left)
    if r < SURE or is_soft_prime(r):
        return row + ((r, k),)
    return None


def is_soft_prime(r):
    """Whether r is a prime such that r - 1 is soft; r has no prime up to 10 ** 5."""
    # Few numbers that are not prime come to the second question.
    if not passes_twelve(r):
        return False
    parts = soft_parts(r - 1)
    return parts is not None and generator_or_witness(r, parts)[0] == "generator"


def generator_or_witness(n, parts):
    """("generator", g) for a prime n, ("strong", a) for any other odd one; parts are the pairs (q, e) of n - 1."""
    for a in range(2, n):
        # A number whose powers only come to 1 at n - 1 shows that n is prime, so one of both comes.
        if a <= n - 2 and is_strong(n, a):
            return ("strong", a)
        if is_generator(a, n, parts):
            return ("generator", a)
    return ("generator", 1)


def is_generator(g, n, parts):
    """Whether no power of g with the exponent (n - 1) // q is 1 modulo n, for the pairs (q, e) of parts."""
    for q, _ in parts:
        if power(g, (n - 1) // q, n) == 1:
            return False
    return True
