"""Parts of odd numbers by differences of squares."""

from math import gcd, isqrt


def squares_part(n, most):
    """The two parts of n that are nearest to one another, if they are found soon."""
    s = isqrt(n - 1) + 1
    for t in range(most):
        y = isqrt((s + t) * (s + t) - n)
        if (s + t) * (s + t) - n == y * y:
            a = s + t - y
            return ("part", t, a, s + t + y) if a > 1 else ("prime", t)
    return ("none",)


def chain_part(n, most):
    """A part of n by the chain of its root, at the first odd index where a square gives one."""
    s = isqrt(n)
    if s * s == n:
        return ("square", s)
    m, d, a = next_of_chain(n, s, 0, 1, s)
    ahead, top = 1, s
    for k in range(1, most + 1):
        ahead, top = top, (a * top + ahead) % n
        m, d, a = next_of_chain(n, s, m, d, a)
        common = common_by_square(n, top, d) if k % 2 == 1 else 1
        if 1 < common < n:
            return ("part", k, common)
    return ("none",)


def next_of_chain(n, s, m, d, a):
    """The next m, d and a of the chain of the root of n, s being the whole part of the root."""
    m = d * a - m
    d = (n - m * m) // d
    return (m, d, (s + m) // d)


def common_by_square(n, top, d):
    """The greatest common part of n and top less the root of d, or 1 if d is no square."""
    r = isqrt(d)
    return gcd(top - r, n) if r * r == d else 1
