"""Sums of four squares; the bar of three."""

from numberpapers.kinds import are_numbers, is_between, is_tuple
from numberpapers.powers import power
from numberpapers.quaternions import NOUGHT, quat_breach, quat_divided, quat_norm, quat_sum, quat_times, whole_turn
from numberpapers.soft import TWELVE
from numberpapers.trials import height_in
from numberpapers.twosquares import from_root, root_below


def four_squares(n):
    """Four numbers from 0, ascending or equal, whose squares add up to n."""
    if n == 0:
        return (0, 0, 0, 0)
    k = height_in(n, 4)
    return tuple(sorted([abs(entry) << k for entry in four_of(n >> 2 * k)]))


def four_of(n):
    """Four integers whose squares add up to n, which 4 does not divide."""
    x = 0
    while True:
        for y in range(x + 1):
            left = n - x * x - y * y
            if left > 0 and left % 4 == 1:
                root = root_tried(left)
                if root > 0 or left == 1:
                    return (x, y) + from_root(left, root)
        x += 1


def root_tried(m):
    """A root of -1 modulo m, or 0; for almost all primes that leave 1 divided by 4 it is found."""
    for z in TWELVE:
        r = power(z, (m - 1) // 4, m)
        square = r * r % m
        if square == m - 1:
            return r
        # Not prime.
        if square != 1:
            return 0
    return 0


def is_four(n, value):
    """Whether a value is a tuple of four numbers from 0, ascending or equal, whose squares add up to n."""
    if not are_numbers(value, 4):
        return False
    a, b, c, d = value
    return 0 <= a <= b <= c <= d and a * a + b * b + c * c + d * d == n


def three_bar(n):
    """(k, m) with n = 4 ** k * (8 * m + 7), or None."""
    if n == 0:
        return None
    k = height_in(n, 4)
    left = n >> 2 * k
    return (k, left // 8) if left % 8 == 7 else None


def minus_one(p):
    """(x, y) from 0 to p - 1 with x * x + y * y + 1 divisible by an odd prime p."""
    if p % 4 == 1:
        return (root_below(p), 0)
    x = 1
    while True:
        y = power(-1 - x * x, (p + 1) // 4, p)
        if (x * x + y * y + 1) % p == 0:
            return (x, y)
        x += 1


def quat_rows(p):
    """Quaternion rows of an odd prime p."""
    x, y = minus_one(p)
    u, v = (2 * p, 0, 0, 0), (2 * x, 2 * y, 2, 0)
    rows = []
    while v != NOUGHT:
        q, r = quat_divided(u, v)
        rows.append((u, v, q, r))
        u, v = v, r
    return (x, y, tuple(rows))


def is_quat_rows(p, value):
    """Whether a value is quaternion rows of p, which need not be prime."""
    if not is_tuple(value, 3) or not is_between(value[0], 0, p - 1) or not is_between(value[1], 0, p - 1):
        return False
    x, y, rows = value
    if (x * x + y * y + 1) % p != 0 or not isinstance(rows, tuple) or not 1 <= len(rows) <= 4 * p.bit_length() + 4:
        return False
    u, v = (2 * p, 0, 0, 0), (2 * x, 2 * y, 2, 0)
    for row in rows:
        # A division by nought is none of a row: r is nought in the last row alone.
        if v == NOUGHT or not is_quat_row(u, v, row):
            return False
        u, v = v, row[3]
    return v == NOUGHT and quat_norm(u) == p


def is_quat_row(u, v, value):
    """Whether a value is the quadruple of u, v, a quotient and a rest of at most half the norm of v."""
    if not is_tuple(value, 4):
        return False
    for entry in value:
        if quat_breach(entry) is not None:
            return False
    if value[0] != u or value[1] != v or quat_sum(quat_times(value[2], v), value[3]) != u:
        return False
    return 2 * quat_norm(value[3]) <= quat_norm(v)


def four_of_rows(value):
    """Four squares of a prime by its quaternion rows."""
    v = value[2][-1][1]
    whole = quat_times(v, whole_turn(v))
    return tuple(sorted([abs(entry) // 2 for entry in whole]))
