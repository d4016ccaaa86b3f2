"""Claims, sayings and their papers judged another way, by the words of [57], [58], [61], [97] to [99], [109] and [110]."""

import math

from tests.judges import is_bar, is_order_row, is_root, is_two, power_upto, sheet_tells, whole
from tests.primes import breach, integer, is_triple, right_witness
from tests.test_fibonacci import is_round_denial, is_round_row
from tests.test_forms import breach as form_breach
from tests.test_pell import right_none
from tests.test_told import right_told

HUGE, GREAT = 10 ** 300, 10 ** 40


def between(n, low, high):
    return integer(n) and low <= n <= high


def pairs(row):
    return type(row) is tuple and all(is_triple(pair, 2) and all(map(integer, pair)) for pair in row)


def rest(a):
    return integer(a) and a >= 0


def is_power_row(row):
    return pairs(row) and len(row) <= 1000 and all(abs(p) <= HUGE and abs(e) <= 1000 for p, e in row)


def is_rest_row(row):
    return pairs(row) and 1 <= len(row) <= 40 and all(1 <= m <= GREAT and 0 <= r <= m - 1 for r, m in row)


def is_apart(f, n):
    return between(n, 1, GREAT) and math.gcd(n, 2 * (f[1] ** 2 - 4 * f[0] * f[2])) == 1


# For each kind the entries, each told by it and those ahead.
ENTRIES = {
    "prime": [lambda n: between(n, 0, HUGE)],
    "whole": [lambda n: between(n, 1, HUGE), lambda n, row: is_power_row(row)],
    "common": [lambda *e: between(e[-1], -HUGE, HUGE)] * 3,
    "rests": [is_rest_row],
    "order": [rest, lambda a, n: between(n, 2, GREAT) and a < n, lambda a, n, d: between(d, 1, GREAT)],
    "root": [rest, lambda g, n: between(n, 2, GREAT) and g < n],
    "rooted": [lambda n: between(n, 2, GREAT)],
    "power": [rest, lambda a, b: rest(b), lambda a, b, n: between(n, 2, GREAT) and a < n > b and math.gcd(a, n) == math.gcd(b, n) == 1],
    "square": [rest, lambda a, n: between(n, 1, GREAT) and a < n],
    "two squares": [lambda n: between(n, 0, GREAT)],
    "four squares": [lambda n: between(n, 0, GREAT)],
    "tells": [lambda f: form_breach(f) is None, is_apart],
    "minus one": [lambda d: between(d, 2, 10 ** 12) and math.isqrt(d) ** 2 != d],
    "perfect": [lambda n: between(n, 1, GREAT)],
    "circle": [lambda n: between(n, 1, 300), lambda n, x: between(x, -1000, 1000), lambda n, x, p: between(p, 2, GREAT)],
    "round": [lambda m: between(m, 1, GREAT), lambda m, r: between(r, 1, GREAT)],
}


def claim_wrong(value):
    """What claim_breach returns [109]."""
    if type(value) is not tuple or not value or type(value[0]) is not str:
        return ("form", -1)
    if value[0] not in ENTRIES:
        return ("kind", 0)
    checks = ENTRIES[value[0]]
    if len(value) != len(checks) + 1:
        return ("many", -1)
    for k, check in enumerate(checks, 1):
        if not check(*value[1:k + 1]):
            return ("entry", k)
    return None


def saying_wrong(value):
    if not is_triple(value, 2) or type(value[0]) is not str or value[0] not in ("is", "not"):
        return ("form", -1)
    return claim_wrong(value[1])


def told(value, word, size):
    return is_triple(value, size) and type(value[0]) is str and value[0] == word


def wrong_at(row):
    """The least k of ("row", k), or None."""
    for k, (p, e) in enumerate(row):
        if p < 2 or k and p <= row[k - 1][0] or e < 1:
            return k
    return None


def has_product(n, row):
    total = 1
    for p, e in row:
        total = min(n + 1, total * power_upto(p, e, n))
    return total == n


def divides(d, n):
    return n == 0 if d == 0 else n % d == 0


def is_denial(a, n, d, value):
    if told(value, "far", 1):
        return pow(a, d, n) != 1
    return told(value, "short", 2) and between(value[1], 2, d) and d % value[1] == 0 and pow(a, d // value[1], n) == 1


def units(value):
    return math.prod(p ** (e - 1) * (p - 1) for p, e, _ in value[2])


def is_root_paper(g, n, value):
    return is_triple(value, 2) and whole(n, value[0]) is None and is_order_row(g, n, units(value[0]), value[1])


def is_power_bar(a, b, n, value):
    if told(value, "four", 1):
        return n % 4 == 0 and a % 4 == 1 and b % 4 == 3
    if told(value, "bar", 4):
        _, m, d, row = value
        return is_part(a, n, m, d, row) and pow(b, d, m) != 1
    if told(value, "two", 8) and all(map(integer, value[1:])):
        _, k, s, t, u, v, x, y = value
        if not 3 <= k < 200 or n % 2 ** k or s not in (0, 1) or u not in (0, 1) or not 0 <= t < 2 ** (k - 2) or not 0 <= v < 2 ** (k - 2):
            return False
        if ((-1) ** s * pow(5, t, 2 ** k) - a) % 2 ** k or ((-1) ** u * pow(5, v, 2 ** k) - b) % 2 ** k:
            return False
        full = 2 ** (k - 2)
        return (x * s * 2 ** (k - 3) + y * t) % full == 0 and (x * u * 2 ** (k - 3) + y * v) % full != 0
    if not told(value, "clash", 3) or not all(is_triple(x, 4) and integer(x[3]) and x[3] >= 0 for x in value[1:]):
        return False
    if not all(is_part(a, n, m, d, row) and (pow(a, e, m) - b) % m == 0 for m, d, row, e in value[1:]):
        return False
    return (value[1][3] - value[2][3]) % math.gcd(value[1][1], value[2][1]) != 0


def is_part(a, n, m, d, row):
    return between(m, 2, n) and n % m == 0 and between(d, 1, GREAT) and is_order_row(a % m, m, d, row)


def sum_of(value):
    return math.prod(sum(p ** k for k in range(e + 1)) for p, e, _ in value[2])


def is_perfect(n, value):
    if told(value, "euclid", 3):
        p = value[1]
        return between(p, 2, 200) and n == 2 ** (p - 1) * (2 ** p - 1) and breach(2 ** p - 1, value[2]) is None
    return told(value, "sum", 2) and whole(n, value[1]) is None and sum_of(value[1]) == 2 * n


def is_circle_denial(n, x, p, value):
    if told(value, "inner", 2):
        return right_witness(p, value[1])
    if told(value, "divides", 1):
        return n % p == 0
    return told(value, "order", 2) and is_denial(x % p, p, n, value[1])


def is_clash(row, value):
    if not told(value, "clash", 5) or not all(map(integer, value[1:])):
        return False
    _, i, j, x, y = value
    if not 0 <= i < j < len(row):
        return False
    g = x * row[i][1] + y * row[j][1]
    return g >= 1 and row[i][1] % g == 0 and row[j][1] % g == 0 and (row[i][0] - row[j][0]) % g != 0


def is_common_denial(a, b, g, value):
    if told(value, "sign", 1):
        return g < 0
    if told(value, "lacks", 1):
        return not divides(g, a) or not divides(g, b)
    if not told(value, "more", 2) or not integer(value[1]):
        return False
    return divides(value[1], a) and divides(value[1], b) and not divides(value[1], g)


def is_whole_denial(n, row, value):
    wrong = wrong_at(row)
    if wrong is not None:
        return told(value, "row", 2) and integer(value[1]) and value[1] == wrong
    if told(value, "product", 1):
        return not has_product(n, row)
    return told(value, "inner", 3) and between(value[1], 0, len(row) - 1) and right_witness(row[value[1]][0], value[2])


def is_whole(n, row, value):
    fine = wrong_at(row) is None and is_triple(value, len(row)) and has_product(n, row)
    return fine and all(breach(p, paper) is None for (p, _), paper in zip(row, value))


def is_common(a, b, g, value):
    fine = is_triple(value, 2) and all(map(integer, value)) and g >= 0 and divides(g, a) and divides(g, b)
    return fine and a * value[0] + b * value[1] == g


def is_root_denial(g, n, value):
    if told(value, "common", 2):
        return integer(value[1]) and value[1] > 1 and g % value[1] == 0 and n % value[1] == 0
    if not told(value, "less", 3) or whole(n, value[1]) is not None or not integer(value[2]) or value[2] < 2:
        return False
    return units(value[1]) % value[2] == 0 and pow(g, units(value[1]) // value[2], n) == 1


def is_no_root(n, value):
    if told(value, "eight", 1):
        return n % 8 == 0
    if not told(value, "two", 5) or not all(map(integer, value[1:])):
        return False
    _, u, v, x, y = value
    return u > 2 and v > 2 and u * v == n and u * x + v * y == 1


def is_four(n, value):
    fine = is_triple(value, 4) and all(map(integer, value)) and 0 <= value[0] <= value[1] <= value[2] <= value[3]
    return fine and sum(x * x for x in value) == n


def is_square_denial(a, n, value):
    if told(value, "sign", 2):
        return n % 2 == 1 and sheet_tells(a, n, value[1]) == -1
    return is_bar(a, n, value)


PAPERS = {
    "prime": (lambda n, v: breach(n, v) is None, right_witness),
    "whole": (is_whole, is_whole_denial),
    "common": (is_common, is_common_denial),
    "rests": (lambda row, v: is_triple(v, 1) and integer(v[0]) and all(v[0] % m == r for r, m in row), is_clash),
    "order": (lambda a, n, d, v: is_order_row(a, n, d, v), is_denial),
    "root": (is_root_paper, is_root_denial),
    "rooted": (lambda n, v: is_triple(v, 2) and between(v[0], 0, n - 1) and is_root_paper(v[0], n, v[1]), is_no_root),
    "power": (lambda a, b, n, v: is_triple(v, 1) and between(v[0], 0, GREAT) and pow(a, v[0], n) == b, is_power_bar),
    "square": (is_root, is_square_denial),
    "two squares": (lambda n, v: is_two(n, ("is", v)), lambda n, v: is_two(n, ("not", v))),
    "four squares": (is_four, lambda n, v: False),
    "tells": (
        lambda f, n, v: is_triple(v, 2) and right_told(f, n, ("pair",) + v),
        lambda f, n, v: is_triple(v, 3) and type(v[0]) is str and v[0] in ("no root", "unlike") and right_told(f, n, v),
    ),
    "minus one": (
        lambda d, v: is_triple(v, 2) and all(map(integer, v)) and v[0] ** 2 - d * v[1] ** 2 == -1,
        lambda d, v: is_triple(v, 1) and right_none(d, v[0]),
    ),
    "perfect": (is_perfect, lambda n, v: told(v, "sum", 2) and whole(n, v[1]) is None and sum_of(v[1]) != 2 * n),
    "circle": (
        lambda n, x, p, v: is_triple(v, 2) and n % p != 0 and breach(p, v[0]) is None and is_order_row(x % p, p, n, v[1]),
        is_circle_denial,
    ),
    "round": (lambda m, r, v: is_round_row(m, r, v), is_round_denial),
}


def right(saying, paper):
    """Whether the first value is a saying and the second one a paper of it [110]."""
    if saying_wrong(saying) is not None:
        return False
    word, claim = saying
    return bool(PAPERS[claim[0]][0 if word == "is" else 1](*claim[1:], paper))
