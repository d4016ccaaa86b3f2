"""Quaternions and their divisions."""

from numberpapers.errors import ByNought
from numberpapers.kinds import are_numbers

NOUGHT = (0, 0, 0, 0)
ONE = (2, 0, 0, 0)


def quat_breach(value):
    """None for a quaternion, otherwise the word of the rule that is broken."""
    if not are_numbers(value, 4):
        return "form"
    odd = [entry % 2 for entry in value]
    return None if odd in ([0, 0, 0, 0], [1, 1, 1, 1]) else "mixed"


def quat_times(u, v):
    """The product, u ahead."""
    (a, b, c, d), (e, f, g, h) = u, v
    # Entries stand for halves of themselves, so the product of two has fourths.
    return (
        (a * e - b * f - c * g - d * h) // 2,
        (a * f + b * e + c * h - d * g) // 2,
        (a * g - b * h + c * e + d * f) // 2,
        (a * h + b * g - c * f + d * e) // 2,
    )


def quat_turned(u):
    """The quaternion with the signs of all but the first entry turned."""
    return (u[0], -u[1], -u[2], -u[3])


def quat_norm(u):
    """The norm."""
    a, b, c, d = u
    return (a * a + b * b + c * c + d * d) // 4


def quat_sum(u, v):
    """u and v added, entry by entry."""
    return (u[0] + v[0], u[1] + v[1], u[2] + v[2], u[3] + v[3])


def quat_less(u, v):
    """u less v, entry by entry."""
    return (u[0] - v[0], u[1] - v[1], u[2] - v[2], u[3] - v[3])


def quat_divided(u, v):
    """(q, r) with u = q v + r, and twice the norm of r at most that of v."""
    if v == NOUGHT:
        raise ByNought()
    norm = quat_norm(v)
    # The true quotient is that of these entries and the norm.
    entries = quat_times(u, quat_turned(v))
    found = []
    for odd in (0, 1):
        # Of all quaternions with even entries, and with odd ones, the nearest to the true quotient.
        q = tuple([2 * ((entry + norm - odd * norm) // (2 * norm)) + odd for entry in entries])
        found.append((q, quat_less(u, quat_times(q, v))))
    one, other = found
    return one if quat_norm(one[1]) <= quat_norm(other[1]) else other


def quat_common(u, v):
    """(g, s, t, p, q) with g = s u + t v, u = p g, v = q g."""
    if u == NOUGHT and v == NOUGHT:
        raise ByNought()
    # Each triple has a quaternion and those whose products with u and v add up to it.
    ahead, triple = (u, ONE, NOUGHT), (v, NOUGHT, ONE)
    while triple[0] != NOUGHT:
        q, r = quat_divided(ahead[0], triple[0])
        s = quat_less(ahead[1], quat_times(q, triple[1]))
        t = quat_less(ahead[2], quat_times(q, triple[2]))
        ahead, triple = triple, (r, s, t)
    g, s, t = ahead
    return (g, s, t, quat_divided(u, g)[0], quat_divided(v, g)[0])


def whole_turn(u):
    """A quaternion of the norm 1 whose product with u ahead has even entries alone."""
    if u[0] % 2 == 0:
        return ONE
    # What is left of each entry by 4, as 1 or -1, turned: then the product of the rests is a whole number.
    return quat_turned(tuple([1 if entry % 4 == 1 else -1 for entry in u]))
