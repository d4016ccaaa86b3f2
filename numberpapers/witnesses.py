"""Witnesses that numbers are not prime."""

from numberpapers.errors import IsPrime
from numberpapers.kinds import is_between, is_told
from numberpapers.powers import power

# Every odd number up to 10 ** 12, and far beyond, that is not prime has a strong witness up to this.
MOST_LEAST = 41


def is_strong(n, a):
    """Whether a, from 2 to n - 2, is the number of a strong witness of an odd n."""
    m = n - 1
    s = 0
    while m % 2 == 0:
        m //= 2
        s += 1
    x = power(a, m, n)
    if x == 1 or x == n - 1:
        return False
    for _ in range(s - 1):
        x = x * x % n
        if x == n - 1:
            return False
    return True


def is_witness(n, value):
    """Whether a value is a witness of n."""
    if is_told(value, "small", 1):
        return n < 2
    if is_told(value, "divisor", 2):
        return is_between(value[1], 2, n - 1) and n % value[1] == 0
    if is_told(value, "power", 2):
        return is_between(value[1], 2, n - 1) and power(value[1], n - 1, n) != 1
    if is_told(value, "root", 2):
        return is_between(value[1], 2, n - 2) and value[1] * value[1] % n == 1
    if is_told(value, "strong", 2):
        return n % 2 == 1 and is_between(value[1], 2, n - 2) and is_strong(n, value[1])
    return False


def least_strong(n):
    """The least number of a strong witness of n."""
    for a in range(2, min(MOST_LEAST, n - 2) + 1):
        if is_strong(n, a):
            return a
    raise IsPrime()


def strong_count(n):
    """How many numbers are those of strong witnesses of n."""
    return len([a for a in range(2, n - 1) if is_strong(n, a)])
