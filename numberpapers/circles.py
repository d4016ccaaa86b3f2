"""Circle polynomials."""

from numberpapers.rowsof import values_row
from numberpapers.sieves import is_tried


def circle_row(n):
    """The coefficients of the circle polynomial of n, that of x ** 0 first."""
    if n == 1:
        return (-1, 1)
    degree = values_row("units", n)[n - 1]
    signs = values_row("moebius", n)
    # Up to its degree the polynomial is the product of powers of 1 - x ** d, with exponents 1 and -1.
    row = [1] + [0] * degree
    for d in range(1, n + 1):
        if n % d == 0 and signs[n // d - 1] == 1:
            row = times_gap(row, d)
        elif n % d == 0 and signs[n // d - 1] == -1:
            row = by_gap(row, d)
    return tuple(row)


def times_gap(row, d):
    """The first coefficients, as many as the row has, of the product with 1 - x ** d."""
    return [c - row[k - d] if k >= d else c for k, c in enumerate(row)]


def by_gap(row, d):
    """The first coefficients of the quotient by 1 - x ** d."""
    found = []
    for k, c in enumerate(row):
        found.append(c + found[k - d] if k >= d else c)
    return found


def circle_value(n, x):
    """The value of the circle polynomial of n at x."""
    value = 0
    for c in reversed(circle_row(n)):
        value = value * x + c
    return value


def prime_above(n, bound):
    """The least prime above a bound that is 1 more than a multiple of n."""
    p = bound - bound % n + 1
    while p <= bound or p < 2 or not is_tried(p):
        p += n
    return p
