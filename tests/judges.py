"""Papers of stages 3 and 4 judged another way, by the words of [5], [46], [57], [61], [64], [66], [71], [76], [77]."""

import math

from tests.primes import breach, forms, integer, is_prime, is_triple, leftover, root, soft

P, Q, R = 100003, 100019, 100043
TOO_HARD = {"limit": 10 ** 5}


def tried(*primes):
    return tuple((q, ("tried", q)) for q in primes)


KNOWN = tried(P, Q)
# What comes ahead of all else: a wrong paper at the first and at a later place.
WRONG_KNOWN = (
    (((2, ("tried", 3)),), 0),
    (((4, ("tried", 4)), (7, None)), 0),
    (((0, None),), 0),
    (tried(2, 3) + ((5, ("tree", (5, 4, ()))),), 2),
    (tried(2) + ((P, []), (Q, None)), 1),
    (tried(1), 0),
)


def factors(n):
    """The pairs (p, e) of a number whose second greatest prime is small."""
    found, d = [], 2
    while d * d <= n:
        e = 0
        while n % d == 0:
            n, e = n // d, e + 1
        if e:
            found.append((d, e))
        d += 1
    return tuple(found) + (((n, 1),) if n > 1 else ())


def told_by(n, primes):
    """Whether n is told by known [5], of which these are the primes."""
    left = leftover(n)[1]
    for q in primes:
        while left % q == 0:
            left //= q
    if left == 1:
        return True
    for k in range(1, 63):
        r = root(left, k)
        if r ** k == left and (r < 10 ** 10 or is_prime(r) and soft(r - 1)):
            return True
    return False


def power_upto(q, e, n):
    """q ** e, or some number above n."""
    found = 1
    for _ in range(e):
        found *= q
        if found > n:
            break
    return found


def whole(n, value):
    """What whole_breach returns."""
    if not is_triple(value, 3) or value[0] != "whole parts" or type(value[0]) is not str:
        return -1
    if not integer(value[1]) or value[1] != n or not forms(value[2], 3) or any(p > n for p, _, _ in value[2]):
        return -1
    total = 1
    for place, (p, e, paper) in enumerate(value[2]):
        if breach(p, paper) is not None:
            return place
        total = min(n + 1, total * power_upto(p, e, n))
    return None if total == n else len(value[2])


def order(a, n):
    """The order of a unit, step by step."""
    d, x = 1, a % n
    while x != 1 % n:
        x, d = x * a % n, d + 1
    return d


def is_order_row(a, n, d, row):
    """Whether a value is a paper of "is" of ("order", a, n, d) [57]."""
    if not forms(row, 3) or math.prod(power_upto(q, e, d) for q, e, _ in row) != d:
        return False
    if pow(a, d, n) != 1 or any(pow(a, d // q, n) == 1 for q, _, _ in row):
        return False
    return all(breach(q, paper) is None for q, _, paper in row)


def is_log_bar(a, b, n, value):
    """Whether a value is a paper of "not" of ("power", a, b, n) [61]."""
    if value == ("four",):
        return n % 4 == 0 and a % 4 == 1 and b % 4 == 3
    if value[0] == "bar":
        _, m, d, row = value
        return m >= 2 and n % m == 0 and is_order_row(a % m, m, d, row) and pow(b, d, m) != 1
    if value[0] == "two":
        _, k, s, t, u, v, x, y = value
        full, fine = 2 ** (k - 2), all(map(integer, value[1:]))
        fine = fine and k >= 3 and n % 2 ** k == 0 and {s, u} <= {0, 1} and 0 <= t < full and 0 <= v < full
        fine = fine and ((-1) ** s * pow(5, t, 2 ** k) - a) % 2 ** k == 0 and ((-1) ** u * pow(5, v, 2 ** k) - b) % 2 ** k == 0
        return fine and (x * s * full // 2 + y * t) % full == 0 and (x * u * full // 2 + y * v) % full != 0
    word, one, other = value
    for m, d, row, e in (one, other):
        if m < 2 or n % m or not is_order_row(a % m, m, d, row) or e < 0 or (pow(a, e, m) - b) % m:
            return False
    return word == "clash" and (one[3] - other[3]) % math.gcd(one[1], other[1]) != 0


def sheet_tells(a, n, value):
    """The sign that a sign sheet of (a, n) tells [64], None for what is none."""
    if type(value) is not tuple or not value:
        return None
    if not all(is_triple(t, 3) and all(map(integer, t)) for t in value) or value[0] != (a, n, 1):
        return None
    for (b, m, s), (c, k, t) in zip(value, value[1:]):
        rest = (b < 0 or b >= m) and (c, k, t) == (b % m, m, s)
        half = b > 0 and b % 2 == 0 and (c, k, t) == (b // 2, m, s if m % 8 in (1, 7) else -s)
        turn = b % 2 == 1 and b > 1 and m > 1 and b < m and (c, k, t) == (m, b, -s if b % 4 == m % 4 == 3 else s)
        if not (rest or half or turn):
            return None
    b, m, s = value[-1]
    if b not in (0, 1) or m == 1 and b != 0:
        return None
    return s if b == 1 or m == 1 else 0


def is_bar(a, n, value):
    """Whether a value is a paper of the opposite of ("square", a, n) [66]."""
    if type(value) is not tuple or not value or type(value[0]) is not str:
        return False
    if value[0] == "sign":
        return len(value) == 2 and n % 2 == 1 and sheet_tells(a, n, value[1]) == -1
    if value[0] == "eight" and len(value) == 3:
        q, k, j = 2, value[1], value[2]
    elif value[0] in ("odd", "power") and len(value) == 5:
        q, k, j = value[1:4]
    else:
        return False
    if not all(map(integer, (q, k, j))) or q < 2 or not 1 <= k <= 1000 or not 0 <= j < k:
        return False
    if n % power_upto(q, k, n) or a % power_upto(q, j, n) or a % power_upto(q, j + 1, n) == 0 or a == 0:
        return False
    if value[0] == "eight":
        return j % 2 == 0 and a // 2 ** j % min(8, 2 ** (k - j)) != 1
    if breach(q, value[4]) is not None:
        return False
    if value[0] == "odd":
        return j % 2 == 1
    return q % 2 == 1 and j % 2 == 0 and pow(a // q ** j, (q - 1) // 2, q) == q - 1


def is_root(a, n, value):
    """Whether a value is a paper of ("square", a, n) [66]."""
    return is_triple(value, 1) and integer(value[0]) and 0 <= value[0] < n and (value[0] ** 2 - a) % n == 0


def is_two(n, value):
    """Whether a value is a two paper of n [71]."""
    if not is_triple(value, 2) or type(value[0]) is not str:
        return False
    if value[0] == "is":
        if not is_triple(value[1], 2) or not all(map(integer, value[1])):
            return False
        x, y = value[1]
        return 0 <= x <= y and x * x + y * y == n
    if value[0] != "not" or n < 1 or not is_triple(value[1], 3):
        return False
    p, e, paper = value[1]
    if not integer(p) or not integer(e) or not 3 <= p <= 10 ** 300 or p % 4 != 3 or not 1 <= e <= 1000 or e % 2 == 0:
        return False
    return n % power_upto(p, e, n) == 0 and n % power_upto(p, e + 1, n) != 0 and breach(p, paper) is None


def quaternion(value):
    """What quat_breach returns [75]."""
    if not is_triple(value, 4) or not all(map(integer, value)):
        return "form"
    return None if len({x % 2 for x in value}) == 1 else "mixed"


def plane_product(z, w):
    return (z[0] * w[0] - z[1] * w[1], z[0] * w[1] + z[1] * w[0])


def is_plane(z, value):
    """Whether a value is plane parts of z [77]."""
    if not is_triple(value, 2) or not is_triple(value[0], 2) or not all(map(integer, value[0])):
        return False
    unit, rows = value
    if unit not in ((1, 0), (0, 1), (-1, 0), (0, -1)) or type(rows) is not tuple:
        return False
    total, last, most = unit, (0, 0), z[0] ** 2 + z[1] ** 2
    for triple in rows:
        if not is_triple(triple, 3) or not is_triple(triple[0], 2) or not all(map(integer, triple[0] + triple[1:2])):
            return False
        (a, b), e, paper = triple
        if a < 1 or b < 0 or not 1 <= e <= 1000 or (a, b) <= last or b == 0 and a % 4 != 3:
            return False
        last, norm = (a, b), a * a + b * b
        if norm > most or breach(a if b == 0 else norm, paper) is not None or power_upto(norm, e, most) > most:
            return False
        for _ in range(e):
            total = plane_product(total, (a, b))
    return total == z
