"""Small and great claims of all kinds."""

import math

from tests.helpers import some
from tests.test_reduced import SMALL
from tests.test_soft import soft_prime

GREAT_PRIME = soft_prime(39)

# Claims of each kind, of those that are so and of those that are not, with each sort of paper that answer may choose.
SMALLS = {
    "prime": [(n,) for n in (0, 1, 2, 3, 4, 9, 15, 97, 91, 561, 1000003, 999999, 10 ** 7 + 19, 10007 ** 2)],
    "whole": [
        (1, ()), (2, ()), (12, ((2, 2), (3, 1))), (12, ((2, 2), (3, 2))), (12, ((3, 1), (2, 2))), (12, ((2, 2), (2, 1))), (12, ((2, 0), (3, 1))), (12, ((2, -1),)), (12, ((1, 1), (12, 1))),
        (12, ((12, 1),)), (36, ((4, 1), (9, 1))), (36, ((2, 2), (9, 1))), (12, ((-2, 2), (3, 1))), (1, ((2, 1),)), (5, ((5, 1),)), (16, ((2, 4),)), (16, ((2, 1000),)), (12, ((0, 1),)),
    ],
    "common": [(a, b, g) for a, b in ((0, 0), (0, 6), (-4, 6), (12, 18), (5, 7), (1, 0)) for g in (-1, 0, 1, 2, 3, 6, 4)],
    "rests": [
        (((1, 2), (2, 3)),), (((0, 1),),), (((1, 4), (3, 6)),), (((1, 4), (2, 6)),), (((0, 6), (3, 9), (1, 2)),), (((5, 7),) * 3,), (((1, 10), (2, 10)),), (((0, 2), (1, 3), (2, 5), (1, 15)),),
    ],
    "order": [(a, n, d) for n in (2, 5, 8, 9, 12) for a in range(n) for d in (1, 2, 4, 6)],
    "root": [(g, n) for n in (2, 3, 4, 5, 8, 9, 10, 12, 15, 18) for g in range(min(n, 7))],
    "rooted": [(n,) for n in (2, 3, 4, 5, 6, 8, 9, 12, 15, 18, 24, 25, 30, 36, 50, 60)],
    "power": [(a, b, n) for n in (2, 4, 5, 8, 9, 15, 16, 35) for a in range(1, n, 2) for b in range(1, n, 3) if math.gcd(a * b, n) == 1],
    "square": [(a, n) for n in (1, 2, 4, 8, 9, 15, 16, 27, 12) for a in range(0, n, 1 + n // 6)],
    "two squares": [(n,) for n in (0, 1, 2, 3, 5, 6, 9, 27, 25, 49, 21, 65)],
    "four squares": [(n,) for n in (0, 1, 7, 15, 31, 60, 112)],
    "tells": [((1, 0, 1), n) for n in (1, 3, 5, 13, 21, 9)] + [((2, 2, 3), n) for n in (1, 3, 7, 21, 23, 29)] + [((2, 1, 3), n) for n in (1, 3, 5, 13, 39)],
    "minus one": [(d,) for d in (2, 3, 5, 6, 7, 10, 13, 34, 61)],
    "perfect": [(n,) for n in (1, 2, 6, 12, 28, 27, 496)],
    "circle": [(n, x, p) for n, x, p in ((1, 2, 2), (1, 3, 2), (4, 2, 5), (4, 3, 5), (4, 2, 7), (6, 2, 3), (6, 2, 9), (3, 2, 7), (3, -3, 7), (3, 0, 7), (5, 7, 11), (5, 4, 11), (2, 1, 2), (2, 6, 7), (12, -5, 601), (1, 1, 13))],
    "round": [(m, r) for m, r in ((1, 1), (1, 2), (2, 3), (2, 6), (2, 4), (3, 8), (3, 16), (5, 20), (5, 40), (10, 60), (7, 16), (7, 15), (7, 48))],
}


def small_claims():
    return [(kind,) + entries for kind in SMALLS for entries in SMALLS[kind]]


def great_claims():
    """Claims with great numbers that need nothing known."""
    source, found = some(739), []
    p = GREAT_PRIME
    moduli = (10 ** 40, 2 ** 132, 3 ** 83, 7 ** 47, p, 2 ** 4 * 3 ** 3 * 5 ** 2 * 7 ** 2 * 11 * 101 ** 3, math.prod((3, 5, 7, 11, 13, 17, 19, 23, 29, 31, 37, 41, 43, 47, 53)), 10 ** 10)
    found += [("prime", n) for n in (p, 10 ** 300, 7 ** 354, 2 ** 607 - 3, 3 ** 628, 10 ** 40, 99991 * p, 10 ** 9 + 7)]
    found += [("whole", 10 ** 300, ((2, 300), (5, 300))), ("whole", 10 ** 300, ((2, 300), (5, 299))), ("whole", p * 3, ((3, 1), (p, 1))), ("whole", 6 ** 380, ((2, 380), (3, 380)))]
    found += [("whole", math.prod(range(1, 101)), tuple((q, sum(100 // q ** k for k in range(1, 8))) for q in range(2, 101) if all(q % d for d in range(2, q))))]
    for _ in range(6):
        a, b = source.randrange(-10 ** 300, 10 ** 300), source.randrange(-10 ** 300, 10 ** 300)
        found += [("common", a, b, math.gcd(a, b)), ("common", a, b, 2), ("common", 6 * a // 10, 6 * b // 10, 1), ("common", a // 7 * 6, b // 8 * 6, 3)]
    row = tuple((source.randrange(m), m) for m in (source.randrange(1, 10 ** 40) for _ in range(40)))
    found += [("rests", row), ("rests", tuple((10 ** 300 % m, m) for _, m in row)), ("rests", ((10 ** 40 - 1, 10 ** 40),) * 40)]
    for n in moduli:
        units = [a for a in (source.randrange(n) for _ in range(40)) if math.gcd(a, n) == 1][:3] + [1, n - 1]
        found += [("rooted", n), ("perfect", n), ("two squares", n), ("four squares", n), ("four squares", n - 1)]
        found += [("order", a, n, d) for a in units for d in (1, 2, 10 ** 40, 12)]
        found += [("root", a, n) for a in units + [0, 2, 3]] + [("power", a, b, n) for a in units for b in units[:3] + [pow(a, 10 ** 30, n)]]
        found += [("square", a, n) for a in units + [0, 2, n // 2] + [a * a % n for a in units[:3]]]
        found += [("round", n, r) for r in (1, 60, 10 ** 40, 15 * 10 ** 39 % 10 ** 40 + 1)]
    for f in SMALL[::40]:
        D = f[1] ** 2 - 4 * f[0] * f[2]
        found += [("tells", f, n) for n in (3 ** 83, 5 ** 57, 7 ** 47, 11 * 13 ** 9, p) if math.gcd(n, 2 * D) == 1]
    found += [("minus one", d) for d in (991, 9781, 1250 ** 2 + 1, 1666 ** 2 + 2, 12499)]
    found += [("perfect", 2 ** 60 * (2 ** 61 - 1)), ("two squares", 5 ** 57), ("two squares", 7 ** 46), ("two squares", 7 ** 47), ("two squares", 2 ** 132)]
    found += [("circle", n, x, q) for n in (1, 2, 12, 101, 300) for x in (-1000, 1000, 2) for q in (p, 2 ** 61 - 1, 601, 10 ** 40, 10 ** 9 + 7)]
    return found


def some_number(source, digits):
    return source.randrange(1, 10 ** source.randrange(1, digits + 1))


def some_modulus(source):
    """A number from 2 on: small, great, or great with small primes."""
    if source.random() < .5:
        return 1 + some_number(source, source.choice((3, 6, 12)))
    n, most = 2, 10 ** source.randrange(1, 36)
    while n < most:
        n *= source.choice((2, 2, 2, 3, 3, 5, 7, 11, 13, 17, 101, 10007))
    return n


def some_whole(source):
    n, row = some_number(source, 6), []
    left = n
    for p in range(2, 1000):
        e = 0
        while left % p == 0:
            left, e = left // p, e + 1
        row += [(p, e)] if e else []
    row += [(left, 1)] if left > 1 else []
    if row and source.random() < .4:
        at = source.randrange(len(row))
        row[at] = (row[at][0] + source.choice((0, 1, -1)), row[at][1] + source.choice((0, 1, -1)))
    if len(row) > 1 and source.random() < .3:
        (p, e), (q, f) = row[:2]
        row = sorted(row[2:] + [(p ** e * q ** f, 1)]) if min(e, f) > 0 else row
    return ("whole", n, tuple(row[::-1] if source.random() < .1 else row))


def some_rests(source):
    x, moduli = some_number(source, 12), [some_number(source, 4) for _ in range(source.randrange(1, 6))]
    row = [(x % m, m) for m in moduli]
    if source.random() < .5:
        at = source.randrange(len(row))
        row[at] = (source.randrange(row[at][1]), row[at][1])
    return ("rests", tuple(row))


def some_tells(source):
    while True:
        a, c = (some_number(source, source.choice((2, 6, 12))) for _ in range(2))
        b = source.randrange(-2 * a, 2 * a + 1)
        x, y = source.randrange(-9, 10), source.randrange(-9, 10)
        n = source.choice((some_number(source, 6), a * x * x + b * x * y + c * y * y))
        D = b * b - 4 * a * c
        if D < 0 < n and math.gcd(n, 2 * D) == 1:
            return ("tells", (a, b, c), n)


def some_circle(source):
    x, p = source.randrange(-1000, 1001), 1 + some_number(source, source.choice((1, 2, 6)))
    orders = [n for n in range(1, 60) if pow(x, n, p) == 1]
    return ("circle", orders[0] if orders and source.random() < .5 else source.randrange(1, 60), x, p)


def drawn_claim(source, kind):
    """Some claim of a kind."""
    n = some_modulus(source)
    a, b = source.randrange(n), source.randrange(n)
    if kind in ("whole", "rests", "tells"):
        return {"whole": some_whole, "rests": some_rests, "tells": some_tells}[kind](source)
    if kind == "common":
        one, other = (some_number(source, 12) * source.choice((1, -1, 0)) for _ in range(2))
        g = math.gcd(one, other)
        return (kind, one, other, source.choice((g, g, -g, 2 * g, 1, 0)))
    if kind == "power":
        a, b = (x if math.gcd(x, n) == 1 else n - 1 for x in (a, b))
        return (kind, a, source.choice((b, pow(a, some_number(source, 6), n))), n)
    if kind == "minus one":
        d = source.choice((some_number(source, 4), some_number(source, 2) ** 2 + 1)) + 1
        return (kind, d if math.isqrt(d) ** 2 != d else d + 1)
    return {
        "prime": (kind, source.choice((n, some_number(source, 40)))), "order": (kind, a, n, source.choice((some_number(source, 10), 1, 2, 12, 60))), "root": (kind, a, n), "rooted": (kind, n),
        "square": (kind, source.choice((a, a * a % n)), n), "two squares": (kind, n), "four squares": (kind, n), "perfect": (kind, n),
        "circle": some_circle(source),
        "round": (kind, some_number(source, 5), source.choice((some_number(source, 6), 60, 24, 1500))),
    }[kind]
