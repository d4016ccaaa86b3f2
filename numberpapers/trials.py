"""Primes taken out of a number one by one."""

from numberpapers.powers import raised

# The remainders by 30 of the numbers that 2, 3 and 5 do not divide.
APART = (1, 7, 11, 13, 17, 19, 23, 29)


def divisor_from(n, low, most):
    """The least prime up to most that divides n, or 0; n, from 2 on, has none below low."""
    for prime in (2, 3, 5):
        if n % prime == 0:
            return prime if prime <= most else 0
    for start in range(low - low % 30, most + 1, 30):
        if start * start > n:
            return n if n <= most else 0
        for remainder in APART:
            d = start + remainder
            if n % d == 0 and d > 1:
                return d if d <= most else 0
    return 0


def taken_out(n, most):
    """The pairs (p, e) of the primes up to most with their full powers in n, and what is left of n."""
    row = []
    left = n
    p = divisor_from(left, 2, most) if left > 1 else 0
    while p > 0:
        e = height_in(left, p)
        left //= raised(p, e)
        row.append((p, e))
        p = divisor_from(left, p, most) if left > 1 else 0
    return (tuple(row), left)


def height_in(n, q):
    """The greatest e such that q ** e divides n, for q from 2 and n from 1 on."""
    e = 0
    while n % q == 0:
        n = n // q
        e += 1
    return e
