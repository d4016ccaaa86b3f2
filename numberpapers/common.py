"""Common parts and the quotients on the way to them."""

from numberpapers.errors import NotRow


def common_part(a, b):
    """The greatest common part of two integers."""
    a, b = abs(a), abs(b)
    while b > 0:
        a, b = b, a % b
    return a


def lowest(a, b):
    """The ratio a / b, b above 0, in lowest terms."""
    g = common_part(a, b)
    return (a // g, b // g)


def combined(a, b):
    """(g, x, y) with a x + b y = g, the greatest common part."""
    if b == 0:
        return (abs(a), sign_of(a), 0)
    g, x = common_and_factor(a, b)
    x = x % (abs(b) // g)
    return (g, x, (g - a * x) // b)


def sign_of(a):
    """1, 0 or -1, as a is above, at or below 0."""
    if a == 0:
        return 0
    return 1 if a > 0 else -1


def common_and_factor(a, b):
    """The greatest common part g of a and b, b not 0, and some x for which b divides g - a x."""
    g, rest = abs(b), a % abs(b)
    x, ahead = 0, 1
    # Both g - a x and rest - a ahead are always multiples of b.
    while rest > 0:
        quotient = g // rest
        g, rest = rest, g - quotient * rest
        x, ahead = ahead, x - quotient * ahead
    return (g, x)


def quotients(a, b):
    """The quotients of a by b, of b by the rest, and so on, up to the division without a rest."""
    found = []
    while b > 0:
        found.append(a // b)
        a, b = b, a % b
    return tuple(found)


def of_quotients(row):
    """The pair without a common part above 1 whose quotients these are."""
    for place, quotient in enumerate(row):
        if quotient < min(place, 1):
            raise NotRow(place)
    if len(row) > 1 and row[-1] == 1:
        raise NotRow(len(row) - 1)
    a, b = 1, 0
    for quotient in reversed(row):
        a, b = quotient * a + b, a
    return (a, b)
