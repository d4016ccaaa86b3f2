"""Roots of polynomials modulo powers of a prime, and without end."""

from numberpapers.errors import NotSimple, TooDeep
from numberpapers.heights import check_prime, is_small_prime
from numberpapers.kinds import is_between, is_told, is_tuple
from numberpapers.powers import raised
from numberpapers.primepapers import is_same
from numberpapers.rests import unit_inverse
from numberpapers.trials import height_in

MOST_COEFFICIENT = 10 ** 30
MOST_DEPTH = 60


def value_at(f, x):
    """The value of a polynomial at x."""
    value = 0
    for c in reversed(list(f)):
        value = value * x + c
    return value


def derived(f):
    """The polynomial of the coefficients i * f[i]."""
    return tuple([i * c for i, c in enumerate(f)])[1:]


def within(f, t, p):
    """The polynomial f(t + p x) in x."""
    found = []
    for c in reversed(list(f)):
        found = [t * low + p * high for low, high in zip(found + [0], [0] + found)]
        found[0] += c
    return tuple(found)


def without_power(f, p):
    """f divided by the greatest power of p that divides all its coefficients, and the exponent of this power."""
    e = min([height_in(c, p) for c in f if c != 0])
    full = raised(p, e)
    return (tuple([c // full for c in f]), e)


def roots_modulo(f, p):
    """The t from 0 to p - 1 at which p divides f."""
    rests = [c % p for c in f]
    return [t for t in range(p) if value_at(rests, t) % p == 0]


def root_lots(f, p, k):
    """The full lots (r, j) that do not lie within another one, ascending."""
    check_prime(p)
    return lots_of(f, p, k)


def lots_of(f, p, k):
    """The same, for great powers, too."""
    found = []
    # Each entry has a lot, f at its integers with some power of p taken out, and the exponent that is still needed.
    waiting = [(0, 0, f, k)]
    while waiting != []:
        r, j, inner, needed = waiting.pop()
        inner, e = without_power(inner, p)
        needed = needed - e
        if is_full(inner, p, needed):
            found.append((r, j))
        else:
            step = raised(p, j)
            waiting.extend([(r + step * t, j + 1, within(inner, t, p), needed) for t in roots_modulo(inner, p)])
    return tuple(sorted(found))


def is_full(f, p, k):
    """Whether p ** k, if k is above 0, divides f at all integers."""
    if k <= 0:
        return True
    full = raised(p, k)
    # As many neighbours as f has coefficients tell it of all integers.
    for x in range(len(f)):
        if value_at(f, x) % full != 0:
            return False
    return True


def root_count(f, p, k):
    """How many r from 0 to p ** k - 1 have p ** k dividing f(r)."""
    return sum([raised(p, k - j) for _, j in root_lots(f, p, k)])


def is_endless_paper(value):
    """Whether a value is a root paper or a rootless paper."""
    if is_told(value, "root", 5):
        _, f, p, r, e = value
        return is_polynomial(f) and is_small_prime(p) and is_root_told(f, p, r, e)
    if is_told(value, "rootless", 4):
        _, f, p, tree = value
        return is_polynomial(f) and is_small_prime(p) and is_rootless_told(f, p, tree)
    return False


def is_polynomial(value):
    """Whether a value is a polynomial."""
    if not isinstance(value, tuple) or not 2 <= len(value) <= 9:
        return False
    for c in value:
        if not is_between(c, -MOST_COEFFICIENT, MOST_COEFFICIENT):
            return False
    return value[-1] != 0


def is_root_told(f, p, r, e):
    """Whether two values are a root of f modulo p ** (2 e + 1) and the height of f' there."""
    if not is_between(e, 0, MOST_DEPTH):
        return False
    full = raised(p, 2 * e + 1)
    if not is_between(r, 0, full - 1) or value_at(f, r) % full != 0:
        return False
    slope = value_at(derived(f), r)
    return slope != 0 and height_in(slope, p) == e


def is_rootless_told(f, p, value):
    """Whether a value is the tree of f divided by a power of p."""
    waiting = [(f, value, 0)]
    while waiting != []:
        inner, tree, depth = waiting.pop()
        inner, _ = without_power(inner, p)
        roots = roots_modulo(inner, p)
        if not are_pairs_of(roots, tree) or depth == MOST_DEPTH and len(roots) > 0:
            return False
        waiting.extend([(within(inner, t, p), beyond, depth + 1) for t, beyond in tree])
    return True


def are_pairs_of(roots, value):
    """Whether a value is a tuple of pairs that begin with just these roots."""
    if not is_tuple(value, len(roots)):
        return False
    for t, pair in zip(roots, value):
        if not is_tuple(pair, 2) or not is_same(pair[0], t):
            return False
    return True


def endless_root(f, p):
    """A root paper or a rootless paper of f and p."""
    check_prime(p)
    lots = lots_of(f, p, 2 * simple_height(f, p) + 1)
    if len(lots) == 0:
        return ("rootless", f, p, tree_of_roots(f, p))
    r, _ = lots[0]
    e = height_in(value_at(derived(f), r), p)
    return ("root", f, p, r % raised(p, 2 * e + 1), e)


def tree_of_roots(f, p):
    """The tree of f divided by a power of p, where it comes to an end."""
    inner, _ = without_power(f, p)
    return tuple([(t, tree_of_roots(within(inner, t, p), p)) for t in roots_modulo(inner, p)])


def simple_height(f, p):
    """The height of the determinant of f and f', which is not 0 if f has no root twice."""
    slope = derived(f)
    d = len(slope)
    table = [(0,) * k + f + (0,) * (d - 2 - k) for k in range(d - 1)]
    table.extend([(0,) * k + slope + (0,) * (d - 1 - k) for k in range(d)])
    size = determinant(table)
    if size == 0:
        raise NotSimple()
    h = height_in(size, p)
    if 2 * h + 1 > MOST_DEPTH:
        raise TooDeep(MOST_DEPTH)
    return h


def determinant(table):
    """The determinant of a square table, or its negative."""
    ahead = 1
    while len(table) > 1:
        places = [place for place, row in enumerate(table) if row[0] != 0]
        if len(places) == 0:
            return 0
        first = table[places[0]]
        others = table[:places[0]] + table[places[0] + 1:]
        # All entries are determinants of parts of the table that was given, so the quotients are whole.
        table = [[(first[0] * b - row[0] * a) // ahead for a, b in zip(first[1:], row[1:])] for row in others]
        ahead = first[0]
    return table[0][0]


def root_figures(paper, count):
    """The first figures, so many, of the endless row of a root paper."""
    _, f, p, r, e = paper
    x = endless_rest(f, p, r, e, count)
    return tuple([x // raised(p, k) % p for k in range(count)])


def endless_rest(f, p, r, e, count):
    """A number with the first figures, so many, of the endless row that the root r begins; e is the height of f'."""
    divisor, full = raised(p, e), raised(p, count + 2 * e + 1)
    # Each step at least adds 1 to the height of f; at so great a one no figure up to count changes.
    while value_at(f, r) % raised(p, count + e) != 0:
        slope = value_at(derived(f), r) // divisor
        r = (r - value_at(f, r) // divisor * unit_inverse(slope, full)) % full
    return r


def endless_roots(f, p):
    """(h + 1, rests) with the rests modulo p ** (h + 1) of all endless rows of figures of roots, ascending."""
    check_prime(p)
    h = simple_height(f, p)
    full = raised(p, h + 1)
    rests = []
    for r, j in lots_of(f, p, 2 * h + 1):
        # Every integer of such a lot is near to a root; a lot of few figures has several of them.
        step = raised(p, min(j, h + 1))
        rests.extend([(r + step * lap) % full for lap in range(full // step)])
    return (h + 1, tuple(sorted(set(rests))))
