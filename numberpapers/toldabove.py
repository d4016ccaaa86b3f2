"""Which numbers a form above zero tells."""

from math import gcd

from numberpapers.errors import TooMany
from numberpapers.forms import value_of
from numberpapers.kinds import is_number, is_told
from numberpapers.rivers import round_upto

MOST_SORTS = 20000


def told_above(f, n):
    """("pair", x, y) with a proper pair at which a river form is n, or ("none", letters)."""
    letters, pair = searched(f, n)
    return ("none", letters) if pair is None else ("pair",) + pair


def is_told_above(f, n, value):
    """Whether a value is an answer of told_above."""
    if is_told(value, "pair", 3):
        _, x, y = value
        return is_number(x) and is_number(y) and gcd(x, y) == 1 and value_of(f, x, y) == n
    if not isinstance(value, tuple) or len(value) == 0 or not isinstance(value[0], str) or value[0] != "none":
        return False
    letters, pair = searched(f, n)
    return pair is None and len(value) == 2 and isinstance(value[1], str) and value[1] == letters


def searched(f, n):
    """The letters of one round begun at f, and a proper pair at which f is n, or None."""
    letters, _ = round_upto(f, MOST_SORTS)
    if n > 0:
        return (letters, pair_beside(f, letters, n))
    a, b, c = f
    # With both letters and both numbers of each pair exchanged, and all signs turned, it is a river form again.
    pair = pair_beside((-c, -b, -a), ["r" if letter == "l" else "l" for letter in letters], -n)
    return (letters, None if pair is None else (pair[1], pair[0]))


def pair_beside(f, letters, n):
    """A proper pair at which a river form is n, from 1 on, or None; letters are those of its round."""
    count, pair = len(letters), None
    a, b, c = f
    one, other = (1, 0), (0, 1)
    for letter in letters:
        if letter == "r":
            b, c = b + 2 * a, a + b + c
            other = pair_sum(one, other)
            continue
        # The pairs of greater values lie beyond the ones that the river passes by.
        ahead, begin = one, a
        a, b = a + b + c, b + 2 * c
        one = pair_sum(one, other)
        more, found = pairs_beyond((begin, begin + a - c, a), ahead, one, n, MOST_SORTS - count)
        count = count + more
        # The first one has the least numbers.
        if pair is None:
            pair = found
        if count > MOST_SORTS:
            raise TooMany(MOST_SORTS)
    return pair


def pair_sum(one, other):
    """The sum of two pairs."""
    return (one[0] + other[0], one[1] + other[1])


def pairs_beyond(form, one, other, n, most):
    """How many sorts of values up to n there are between two pairs, with one itself, and one of them for n or None.

    The form has the values at one, at other, and, all three entries together, at their sum; the count stops above most.
    """
    count = 1 if form[0] <= n else 0
    pair = one if form[0] == n else None
    waiting = [(form, one, other)]
    while waiting != [] and count <= most:
        (a, b, c), u, v = waiting.pop()
        s, w = a + b + c, pair_sum(u, v)
        # All pairs beyond have greater values.
        if s > n:
            continue
        count += 1
        if s == n:
            pair = w
        waiting.extend([((a, b + 2 * a, s), u, w), ((s, b + 2 * c, c), w, v)])
    return (count, pair)
