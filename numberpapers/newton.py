"""Inverses by Newton's way, quotients by them, and rests by many moduli at once."""

from numberpapers.digits import need_one_base, number_of, row_of
from numberpapers.errors import ByNought
from numberpapers.powers import raised

# An inverse of so few places is divided out.
FEW = 4


def inverse(row, k):
    """A row that, times the row of n digits, differs from base ** (n + k) by at most twice the row."""
    base, digits = row
    return row_of(inverse_number(number_of(row), len(digits), k, base), base)


def inverse_number(d, n, k, base):
    """A number that, times d, is at most base ** (n + k), and less by at most 2 * d; d is below base ** n."""
    if k <= FEW:
        return raised(base, n + k) // d
    half = k // 2 + 2
    found = inverse_number(d, n, half, base)
    miss = raised(base, n + half) - found * d
    # What found lacks of the inverse is found times the miss, but for the square of the miss.
    return found * raised(base, k - half) + found * miss // raised(base, n + 2 * half - k)


def divided_fast(row, divisor):
    """The rows of quotient and rest, the quotient by an inverse of the divisor."""
    base = need_one_base(row, divisor)
    d = number_of(divisor)
    if d == 0:
        raise ByNought()
    n = number_of(row)
    size = len(divisor[1])
    k = max(1, len(row[1]) - size + 1)
    quotient = n * inverse_number(d, size, k, base) // raised(base, size + k)
    # The inverse is never too great, so the quotient can only be too small, by a few.
    while n - quotient * d >= d:
        quotient += 1
    return (row_of(quotient, base), row_of(n - quotient * d, base))


def rests_all(n, moduli):
    """The rests of an integer by all the moduli."""
    if len(moduli) == 0:
        return ()
    if len(moduli) == 1:
        return (n % moduli[0],)
    half = len(moduli) // 2
    # A rest by a product has the rests by its factors, and is less than the integer.
    low = rests_all(n % product_of_all(moduli[:half]), moduli[:half])
    high = rests_all(n % product_of_all(moduli[half:]), moduli[half:])
    return low + high


def product_of_all(moduli):
    """The product of all the moduli."""
    if len(moduli) == 1:
        return moduli[0]
    half = len(moduli) // 2
    return product_of_all(moduli[:half]) * product_of_all(moduli[half:])
