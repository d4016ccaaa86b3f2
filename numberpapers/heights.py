"""How often a prime divides."""

from numberpapers.errors import NoHeight, NotPrime, NotUnit
from numberpapers.kinds import is_between
from numberpapers.powers import power, raised
from numberpapers.sieves import is_tried
from numberpapers.trials import height_in

MOST_BASE = 1000


def is_small_prime(p):
    """Whether a value is a prime from 2 to 1000."""
    return is_between(p, 2, MOST_BASE) and is_tried(p)


def check_prime(p):
    """Refuse what is no prime from 2 to 1000."""
    if not is_small_prime(p):
        raise NotPrime()


def height(p, n):
    """The greatest e such that p ** e divides n."""
    check_prime(p)
    if n == 0:
        raise NoHeight()
    return height_in(n, p)


def figures(p, n):
    """The figures of n to the base p, the least one first."""
    found = []
    while n > 0:
        found.append(n % p)
        n = n // p
    return found


def factorial_height(p, n):
    """The height of the product of 1, .., n."""
    check_prime(p)
    return (n - sum(figures(p, n))) // (p - 1)


def choose_height(p, n, m):
    """The height of the number of choices of m things among n."""
    return carries_at(p, m, n - m)


def carries_at(p, a, b):
    """The number of places at which 1 is carried when a and b are added in figures to the base p."""
    check_prime(p)
    count = carry = 0
    while a > 0 or b > 0:
        carry = 1 if a % p + b % p + carry >= p else 0
        count += carry
        a, b = a // p, b // p
    return count


def factorial_figure(p, n):
    """The product of 1, .., n, divided by its full power of p, modulo p."""
    # The numbers from 1 to p - 1 have the product -1 modulo p, and so many times they stand in what is left.
    value = -1 if factorial_height(p, n) % 2 == 1 else 1
    for figure in figures(p, n):
        value = value * factorial_rest(p, figure) % p
    return value % p


def factorial_rest(p, n):
    """The product of 1, .., n, modulo p."""
    value = 1
    for k in range(2, n + 1):
        value = value * k % p
    return value


def choose_rest(p, n, m):
    """The number of choices of m things among n, modulo p."""
    check_prime(p)
    value = 1
    while m > 0:
        if m % p > n % p:
            return 0
        # A figure below p: its factorial has an inverse.
        below = factorial_rest(p, m % p) * factorial_rest(p, n % p - m % p)
        value = value * factorial_rest(p, n % p) * power(below, p - 2, p) % p
        n, m = n // p, m // p
    return value


def difference_height(p, a, b, n):
    """The height of a ** n - b ** n."""
    check_prime(p)
    if a % p == 0 or b % p == 0:
        raise NotUnit()
    if a == b or a == -b and n % 2 == 0:
        raise NoHeight()
    if p == 2:
        return height_in(a - b, 2) if n % 2 == 1 else height_in(a * a - b * b, 2) + height_in(n, 2) - 1
    # The least d with p in a ** d - b ** d; all others are its multiples.
    d = 1
    while (power(a, d, p) - power(b, d, p)) % p != 0:
        d += 1
    return height_in(raised(a, d) - raised(b, d), p) + height_in(n, p) if n % d == 0 else 0
