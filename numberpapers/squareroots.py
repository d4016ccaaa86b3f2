"""Squares of rests: roots, and bars that show that there are none."""

from numberpapers.errors import TooHard
from numberpapers.kinds import is_between, is_from, is_told, is_tuple
from numberpapers.knownparts import checked_parts
from numberpapers.powers import power, raised, raised_upto
from numberpapers.primepapers import is_prime_paper
from numberpapers.rests import together, unit_inverse
from numberpapers.signs import euler, is_sign_sheet, sign, sign_told
from numberpapers.trees import MOST_POWER
from numberpapers.trials import height_in

MOST_NONSQUARE = 2000


def least_nonsquare(p):
    """The least number from 2 on that is no square modulo an odd prime p."""
    for z in range(2, MOST_NONSQUARE + 1):
        if sign(z, p) == -1:
            return z
    raise TooHard(MOST_NONSQUARE)


def square_paper(a, n, known=()):
    """("is", paper) or ("not", paper), by whether a is a square modulo n."""
    return square_by(a, checked_parts(n, known))


def square_by(a, parts):
    """The same for the prime parts of n."""
    bar = bar_by(a, parts)
    if bar is not None:
        return ("not", bar)
    rests = []
    for q, k, _ in parts:
        m, roots = part_roots(a, q, k)
        rests.append((roots[0], m))
    # A root modulo q ** k may be any number with this rest by m.
    x, _ = together(tuple(rests))
    return ("is", (x,))


def bar_by(a, parts):
    """A paper that a is no square modulo a number of these prime parts with papers, or None if it is one."""
    for q, k, paper in parts:
        bar = part_bar(a, q, k, paper)
        if bar is not None:
            return bar
    return None


def part_bar(a, q, k, paper):
    """A paper that a is no square modulo q ** k, or None."""
    j = height_upto(a, q, k)
    if j == k:
        return None
    if j % 2 == 1:
        return ("odd", q, k, j, paper)
    unit = a // raised(q, j)
    if q == 2:
        return None if is_one_by_eight(unit, k - j) else ("eight", k, j)
    return ("power", q, k, j, paper) if euler(unit, q) == -1 else None


def height_upto(a, q, k):
    """The greatest j up to k such that q ** j divides a."""
    return k if a == 0 else min(k, height_in(a, q))


def is_one_by_eight(unit, figures):
    """Whether a number leaves 1 divided by the lesser one of 8 and 2 ** figures."""
    return unit % min(8, 1 << figures) == 1


def part_roots(a, q, k):
    """The pair (m, rests), such that the roots of a square a modulo q ** k are the integers with these rests by m."""
    j = height_upto(a, q, k)
    if j == k:
        return (raised(q, (k + 1) // 2), (0,))
    half = raised(q, j // 2)
    roots = unit_roots(a // raised(q, j), q, k - j)
    return (raised(q, k - j // 2), tuple(sorted([half * y for y in roots])))


def unit_roots(unit, q, k):
    """The roots from 0 to q ** k - 1 of a square unit modulo q ** k."""
    full = raised(q, k)
    if q > 2:
        y = lifted_root(prime_root(unit, q), unit, full)
        return [y, full - y]
    if k <= 2:
        return [1, 3][:k]
    y = 1
    for place in range(3, k):
        # y is a root modulo 2 ** place; one of both, this and the next one, is a root modulo twice that.
        if (y * y - unit) % (2 << place) != 0:
            y += 1 << (place - 1)
    return [y, full - y, (y + full // 2) % full, (full // 2 - y) % full]


def lifted_root(y, unit, full):
    """A root of a unit modulo the power full of an odd prime, by a root y modulo the prime."""
    while (y * y - unit) % full != 0:
        y = (y - (y * y - unit) * unit_inverse(2 * y, full)) % full
    return y


def prime_root(a, p):
    """A root of a square a modulo an odd prime p that does not divide it."""
    if p % 4 == 3:
        return power(a, (p + 1) // 4, p)
    twos = height_in(p - 1, 2)
    odd = (p - 1) >> twos
    step = power(least_nonsquare(p), odd, p)
    x, rest = power(a, (odd + 1) // 2, p), power(a, odd, p)
    # Always x * x is a times rest, and rest is a power of the square of step.
    for place in range(1, twos):
        if power(rest, 1 << (twos - 1 - place), p) != 1:
            x, rest = x * step % p, rest * step * step % p
        step = step * step % p
    return x


def is_square_paper(a, n, value):
    """Whether a value is a paper that a is a square modulo n."""
    return is_tuple(value, 1) and is_between(value[0], 0, n - 1) and (value[0] * value[0] - a) % n == 0


def is_square_bar(a, n, value):
    """Whether a value is a paper that a is no square modulo n."""
    if is_told(value, "sign", 2):
        return n % 2 == 1 and is_sign_sheet(a, n, value[1]) and sign_told(value[1]) == -1
    if is_told(value, "eight", 3):
        _, k, j = value
        return is_height_told(a, n, 2, k, j) and j % 2 == 0 and not is_one_by_eight(a >> j, k - j)
    if not is_told(value, "odd", 5) and not is_told(value, "power", 5):
        return False
    word, q, k, j, paper = value
    if not is_height_told(a, n, q, k, j) or not is_prime_paper(q, paper):
        return False
    if word == "odd":
        return j % 2 == 1
    return q % 2 == 1 and j % 2 == 0 and euler(a // raised(q, j), q) == -1


def is_height_told(a, n, q, k, j):
    """Whether q ** k divides n, and q ** j, but not q ** (j + 1), divides a, and k and j are in their ranges."""
    if not is_from(q, 2) or not is_between(k, 1, MOST_POWER) or not is_between(j, 0, k - 1):
        return False
    return n % raised_upto(q, k, n) == 0 and a > 0 and j == height_in(a, q)
