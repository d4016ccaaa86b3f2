"""Logarithms, with papers of both sorts."""

from numberpapers.common import common_part
from numberpapers.errors import TooHard
from numberpapers.powers import power, raised
from numberpapers.primepapers import product_of_powers
from numberpapers.rests import together
from numberpapers.steplogs import MOST_STEPS, is_steep, log_in_round, two_exponents
from numberpapers.unitparts import part_orders, unit_parts


def log_of(a, b, n, known=()):
    """The least e from 0 on with a ** e equal to b modulo n, or None."""
    word, paper = log_paper(a, b, n, known)
    return paper[0] if word == "is" else None


def log_paper(a, b, n, known=()):
    """("is", paper) or ("not", paper), by whether b is a power of a."""
    return log_by(a, b, unit_parts(n, known, (a, b)))


def log_by(a, b, parts):
    """The same for the prime parts of n."""
    orders = part_orders(a, parts)
    bar = two_bar(a, b, parts[0]) or odd_bar(a, b, parts, orders)
    if bar is not None:
        return ("not", bar)
    for rows in orders:
        if is_steep(rows):
            raise TooHard(MOST_STEPS)
    shares = []
    for part, rows in zip(parts, orders):
        m = raised(part[0], part[1])
        shares.append((m, product_of_powers(rows), rows, log_in_round(a, b, m, rows)))
    clash = clash_in(shares)
    if clash is not None:
        return ("not", clash)
    e, _ = together(tuple([(e, d) for _, d, _, e in shares]))
    return ("is", (e,))


def two_bar(a, b, part):
    """A paper that b is no power of a modulo a power of 2, where the first prime part of a modulus is one; or None."""
    p, k, _, _ = part
    if p > 2 or k < 2:
        return None
    if a % 4 == 1 and b % 4 == 3:
        return ("four",)
    return character_bar(two_exponents(a, k), two_exponents(b, k), k) if k > 2 else None


def character_bar(one, other, k):
    """A paper ("two", ..) by the exponents of a and b, or None; b is 1 modulo 4 if a is."""
    (s, t), (u, v) = one, other
    full, half = 1 << (k - 2), 1 << (k - 3)
    twos = common_part(t, full)
    # All pairs that take a to 0 are multiples of this one, or, if s is 0, such and (1, 0), which takes b to 0, too.
    x, y = (1, half // twos) if s == 1 and t > 0 else (0, full // twos)
    return ("two", k, s, t, u, v, x, y) if (x * u * half + y * v) % full != 0 else None


def odd_bar(a, b, parts, orders):
    """A paper that b is no power of a modulo an odd prime power, or None."""
    for part, rows in zip(parts, orders):
        m, d = raised(part[0], part[1]), product_of_powers(rows)
        if part[0] > 2 and power(b, d, m) != 1:
            return ("bar", m, d, rows)
    return None


def clash_in(shares):
    """A paper by two entries (m, d, row, e) which no exponent fits together, or None."""
    for place, first in enumerate(shares):
        for second in shares[place + 1:]:
            if (first[3] - second[3]) % common_part(first[1], second[1]) != 0:
                return ("clash", first, second)
    return None
