"""Rests by several moduli, whole points of lines, and ratios from their rests."""

from numberpapers.common import combined, common_part
from numberpapers.errors import Barred, Clash, NoUnit, TooWide
from numberpapers.kinds import are_numbers, is_tuple


def together(row):
    """(x, M), such that the integers with all the rests are those that leave x modulo M."""
    clash = first_clash(row)
    if clash is not None:
        raise Clash(clash[0], clash[1])
    x, product = 0, 1
    for rest, modulus in row:
        g, factor, _ = combined(product, modulus)
        x += product * ((rest - x) // g * factor % (modulus // g))
        product *= modulus // g
    return (x, product)


def first_clash(row):
    """The least pair of indexes whose two pairs (r, m) no integer fits together, or None."""
    for i, (rest, modulus) in enumerate(row):
        for j in range(i + 1, len(row)):
            if (rest - row[j][0]) % common_part(modulus, row[j][1]) != 0:
                return (i, j)
    return None


def unit_inverse(a, m):
    """The x from 0 to m - 1 for which a x leaves the rest of 1 modulo m."""
    g, x, _ = combined(a, m)
    if g > 1:
        raise NoUnit(g)
    return x


def line(a, b, c):
    """(x, y, dx, dy): the pairs with a x + b y = c are just (x + k dx, y + k dy)."""
    g, factor, _ = combined(a, b)
    if c % g != 0:
        raise Barred(g)
    if b == 0:
        return (c // a, 0, 0, 1)
    dx = abs(b) // g
    x = factor * (c // g) % dx
    return (x, (c - a * x) // b, dx, -a * dx // b)


def payable(a, b, c):
    """The pair from 0 on with a x + b y = c and the least x, or None."""
    if c % common_part(a, b) != 0:
        return None
    x, y, _, _ = line(a, b, c)
    return (x, y) if y >= 0 else None


def ways(a, b, c):
    """How many pairs from 0 on there are with a x + b y = c."""
    least = payable(a, b, c)
    if least is None:
        return 0
    return least[1] * common_part(a, b) // a + 1


def greatest_bill(a, b):
    """The greatest number that can not be paid, or None if there are such without end."""
    return a * b - a - b if common_part(a, b) == 1 else None


def reduced_pairs(r, m, t, u):
    """What pairs_upto returns, for bounds that are not too wide."""
    if 2 * t * u >= m:
        raise TooWide(m)
    return pairs_upto(r, m, t)


def pairs_upto(r, m, t):
    """The first pair (R, T) of the divisions of m by r with R at most t, behind the one ahead of it."""
    ahead, pair = (m, 0), (r, 1)
    # In each pair the first number less r times the second one is a multiple of m.
    while pair[0] > t:
        quotient = ahead[0] // pair[0]
        ahead, pair = pair, (ahead[0] - quotient * pair[0], ahead[1] - quotient * pair[1])
    return (ahead, pair)


def fraction_of(r, m, t, u):
    """The good pair with the least q, or None."""
    _, (p, q) = reduced_pairs(r, m, t, u)
    if abs(q) > u:
        return None
    return (p, q) if q > 0 else (-p, -q)


def bar_of(r, m, t, u):
    """A bar, or None if there is a good pair."""
    ahead, pair = reduced_pairs(r, m, t, u)
    return (ahead, pair) if abs(pair[1]) > u else None


def is_bar(r, m, t, u, value):
    """Whether a value is a bar."""
    if 2 * t * u >= m:
        raise TooWide(m)
    if not is_tuple(value, 2) or not are_numbers(value[0], 2) or not are_numbers(value[1], 2):
        return False
    (R, T), (S, V) = value
    if (R - T * r) % m != 0 or (S - V * r) % m != 0:
        return False
    return abs(R * V - S * T) == m and R > t and S >= 0 and abs(V) > u and T * V <= 0
