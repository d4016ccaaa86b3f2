"""Rows of values of functions of numbers."""

from math import gcd, isqrt

from numberpapers.errors import NotRow, NotTurned, NotWord
from numberpapers.kinds import is_number
from numberpapers.powers import raised
from numberpapers.trials import divisor_from, height_in

MOST_VALUES = 2000

# Each word that is a product of two others.
PRODUCTS = {
    "units": ("self", "moebius"),
    "count": ("ones", "ones"),
    "sum": ("self", "ones"),
    "signs": ("squares", "moebius"),
}


def values_row(word, size):
    """The row of a word."""
    if word == "moebius":
        return inverse_of(values_row("ones", size))
    if word in PRODUCTS:
        one, other = PRODUCTS[word]
        return product_row(values_row(one, size), values_row(other, size))
    return tuple([plain_value(word, n) for n in range(1, size + 1)])


def plain_value(word, n):
    """The value at n of a word that needs no divisors."""
    if word == "one":
        return 1 if n == 1 else 0
    if word == "ones":
        return 1
    if word == "self":
        return n
    if word == "squares":
        root = isqrt(n)
        return 1 if root * root == n else 0
    raise NotWord()


def is_row(value):
    """Whether a value is a row."""
    if not isinstance(value, tuple) or not 1 <= len(value) <= MOST_VALUES:
        return False
    for entry in value:
        if not is_number(entry):
            return False
    return True


def check_rows(rows):
    """Refuse what is no row, and rows of unlike lengths."""
    for place, row in enumerate(rows):
        if not is_row(row):
            raise NotRow(place)
    for row in rows:
        if len(row) != len(rows[0]):
            raise NotRow(1)


def product_of(f, g):
    """The row with the sum of f at d times g at n / d, over the divisors d of n, as its value at n."""
    check_rows([f, g])
    return product_row(f, g)


def product_row(f, g):
    """The same for what are surely rows."""
    size = len(f)
    found = [0] * size
    for d in range(1, size + 1):
        if f[d - 1] == 0:
            continue
        for e in range(1, size // d + 1):
            found[d * e - 1] += f[d - 1] * g[e - 1]
    return tuple(found)


def entrywise(f, g):
    """The row of the products of values at equal places."""
    check_rows([f, g])
    return tuple([one * other for one, other in zip(f, g)])


def turned_back(f):
    """The row whose product with f is that of "one"."""
    check_rows([f])
    if f[0] not in (1, -1):
        raise NotTurned()
    return inverse_of(f)


def inverse_of(f):
    """The same for a row that begins with 1 or -1."""
    size = len(f)
    # At each n what is still to be taken from the value that the product has there.
    left = [1] + [0] * (size - 1)
    found = []
    for n in range(1, size + 1):
        value = left[n - 1] * f[0]
        found.append(value)
        for d in range(2, size // n + 1):
            left[n * d - 1] -= value * f[d - 1]
    return tuple(found)


def splits(f):
    """Whether f at 1 is 1, and f at a product of two without a common part above 1 the product of f at both."""
    check_rows([f])
    return has_products(f, False)


def splits_always(f):
    """Whether f at 1 is 1, and f at a product of any two the product of f at both."""
    check_rows([f])
    return has_products(f, True)


def has_products(f, always):
    """Whether f at 1 is 1, and f at a product the product of f at both, where they have no common part or always."""
    if f[0] != 1:
        return False
    for a in range(2, isqrt(len(f)) + 1):
        for b in range(a, len(f) // a + 1):
            if (always or gcd(a, b) == 1) and f[a * b - 1] != f[a - 1] * f[b - 1]:
                return False
    return True


def row_by_powers(f):
    """The row that splits and has the values of f at all powers of primes."""
    check_rows([f])
    found = [1]
    for n in range(2, len(f) + 1):
        p = divisor_from(n, 2, n)
        full = raised(p, height_in(n, p))
        found.append(f[n - 1] if full == n else f[full - 1] * found[n // full - 1])
    return tuple(found)
