"""Chains of ratios, their neighbours and turns."""

from numberpapers.common import lowest, quotients
from numberpapers.errors import TooMany
from numberpapers.kinds import same_nest

MOST_LETTERS = 2000


def chain(a, b):
    """The chain of the ratio a / b."""
    found = []
    while b != 0:
        found.append(a // b)
        a, b = b, a % b
    return tuple(found)


def convergents(row):
    """The ratios of the beginnings of a chain, in lowest terms."""
    found = []
    p, q = 1, 0
    p_ahead, q_ahead = 0, 1
    for quotient in row:
        p, p_ahead = quotient * p + p_ahead, p
        q, q_ahead = quotient * q + q_ahead, q
        found.append((p, q))
    return tuple(found)


def neighbours(a, b, most):
    """The greatest ratio not above a / b and the least one not below it, with denominators up to most."""
    a, b = lowest(a, b)
    if b <= most:
        return ((a, b), (a, b))
    p, q = a // b, 1
    r, s = p + 1, 1
    # Neither end ever comes to a / b, as its denominator is above most.
    while q + s <= most:
        k = min((a * q - b * p) // (b * r - a * s), (most - q) // s)
        p, q = p + k * r, q + k * s
        k = min((b * r - a * s) // (a * q - b * p), (most - s) // q)
        r, s = r + k * p, s + k * q
    return ((p, q), (r, s))


def nearest(a, b, most):
    """The ratio with a denominator up to most that is nearest to a / b."""
    (p, q), (r, s) = neighbours(a, b, most)
    # Both differences from a / b, times b q s.
    below, above = (a * q - b * p) * s, (b * r - a * s) * q
    if (below, q) <= (above, s):
        return (p, q)
    return (r, s)


def is_neighbours(a, b, most, value):
    """Whether a value is the pair of neighbours."""
    return same_nest(value, neighbours(a, b, most))


def turns(a, b):
    """The text of letters that leads to the ratio a / b."""
    counts = list(quotients(a, b))
    # The last division would lead beyond the ratio to an end.
    counts[-1] -= 1
    if sum(counts) > MOST_LETTERS:
        raise TooMany(MOST_LETTERS)
    return "".join(["rl"[place % 2] * count for place, count in enumerate(counts)])


def of_turns(text):
    """The ratio that a text of letters leads to."""
    p, q = 0, 1
    r, s = 1, 0
    for letter in text:
        if letter == "l":
            r, s = p + r, q + s
        else:
            p, q = p + r, q + s
    return (p + r, q + s)
