"""Which numbers a form below zero tells."""

from math import gcd, isqrt

from numberpapers.common import lowest
from numberpapers.errors import HasCommon, TooMany
from numberpapers.forms import discriminant, is_turn, led, value_of
from numberpapers.kinds import is_between, is_from, is_number, is_told, is_tuple
from numberpapers.knownparts import check_known, told_parts
from numberpapers.lifting import roots_by
from numberpapers.primepapers import is_prime_paper
from numberpapers.reduced import is_reduced, reduced, reduced_forms, stabilizer, turn_back, turn_times
from numberpapers.signs import euler
from numberpapers.wholeparts import whole_breach

MOST_PRIMES = 7
MOST_ROOTS = 64


def told_small(f, n):
    """The least proper pair (x, y), x above 0 or the pair (0, 1), at which f is n, or None."""
    # The pairs of a form that is not reduced may be great, those of a reduced one are near at hand.
    form, ((p, q), (r, s)) = reduced(f)
    pairs = [upper(p * x + q * y, r * x + s * y) for x, y in proper_pairs(form, n)]
    return min(pairs) if len(pairs) > 0 else None


def upper(x, y):
    """The pair or its negative, whichever has x above 0, or is (0, 1) where x is 0."""
    return (x, y) if x > 0 or x == 0 and y > 0 else (-x, -y)


def proper_pairs(f, n):
    """All pairs without a common part above 1 at which a reduced form is n."""
    a, b, _ = f
    D = discriminant(f)
    most = isqrt(4 * a * n // -D)
    found = []
    for y in range(-most, most + 1):
        square = 4 * a * n + D * y * y
        root = isqrt(square)
        if root * root != square:
            continue
        for signed in sorted(set([root, -root])):
            x = (signed - b * y) // (2 * a)
            if 2 * a * x == signed - b * y and gcd(x, y) == 1:
                found.append((x, y))
    return found


def middle_roots(D, n):
    """All B from 0 to 2 * n - 1 for which B * B - D is a multiple of 4 * n, ascending."""
    rest = D % (4 * n)
    return tuple([B for B in range(2 * n) if (B * B - rest) % (4 * n) == 0])


def check_apart(f, n):
    """Refuse a number that has a common part above 1 with twice the discriminant of f."""
    common = gcd(n, 2 * discriminant(f))
    if common > 1:
        raise HasCommon(common)


def told(f, n, known=()):
    """("pair", x, y), ("no root", p, paper) or ("unlike", row, roots), by whether f tells n properly."""
    check_known(known)
    check_apart(f, n)
    return told_by(f, n, told_parts(n, known))


def told_by(f, n, parts):
    """The same for the prime parts of n."""
    D = discriminant(f)
    for p, _, paper in parts:
        if euler(D, p) == -1:
            return ("no root", p, paper)
    if len(parts) > MOST_PRIMES:
        raise TooMany(MOST_ROOTS)
    form, turn = reduced(f)
    roots = []
    for B in half_roots(D, n, parts):
        for middle in (B, -B):
            pair = pair_by(form, turn, root_form(D, n, middle))
            if pair is not None:
                return ("pair",) + pair
        roots.append((B, reduced(root_form(D, n, B))[1]))
    return ("unlike", parts, tuple(roots))


def half_roots(D, n, parts):
    """All B from 0 to n for which B * B - D is a multiple of 4 * n, ascending; n is odd, parts are its prime parts."""
    # B must be even or odd as D is, which one of a root modulo n and the next integer with its rest is.
    found = [x if (x - D) % 2 == 0 else x + n for x in roots_by(D % n, parts)]
    return [B for B in found if B <= n]


def root_form(D, n, B):
    """The form of the discriminant D that begins with n and B."""
    return (n, B, (B * B - D) // (4 * n))


def pair_by(form, turn, other):
    """The pair at which f, which the turn leads to form, is the first entry of other, or None if they are not alike."""
    found, behind = reduced(other)
    if found != form:
        return None
    (x, _), (y, _) = turn_times(turn, turn_back(behind))
    return (x, y)


def is_told_paper(f, n, value):
    """Whether a value is an answer of told."""
    check_apart(f, n)
    if is_told(value, "pair", 3):
        return is_pair_told(f, n, value[1], value[2])
    if is_told(value, "no root", 3):
        _, p, paper = value
        return is_from(p, 2) and n % p == 0 and is_prime_paper(p, paper) and euler(discriminant(f), p) == -1
    return is_told(value, "unlike", 3) and is_unlike_told(f, n, value[1], value[2])


def is_pair_told(f, n, x, y):
    """Whether two values are numbers without a common part above 1 at which f is n."""
    return is_number(x) and is_number(y) and gcd(x, y) == 1 and value_of(f, x, y) == n


def is_unlike_told(f, n, row, roots):
    """Whether two values are the prime parts of n and all roots, none of which is that of a form alike to f."""
    if whole_breach(n, ("whole parts", n, row)) is not None:
        return False
    # So many there are if some square leaves the rest of D modulo each prime, and otherwise none.
    if not is_tuple(roots, 1 << max(0, len(row) - 1)):
        return False
    D, form, least = discriminant(f), reduced(f)[0], 0
    for root in roots:
        if not is_tuple(root, 2) or not is_between(root[0], least, n) or not is_root_apart(form, D, n, root):
            return False
        least = root[0] + 1
    return True


def is_root_apart(form, D, n, root):
    """Whether a pair (B, turn) is a root and a turn that shows that it belongs to no form alike to a reduced one."""
    B, turn = root
    if (B * B - D) % (4 * n) != 0 or not is_turn(turn):
        return False
    found = led(root_form(D, n, B), turn)
    return is_reduced(found) and found != form and reduced((found[0], -found[1], found[2]))[0] != form


def proper_counts(D, n):
    """The sum of how many proper pairs the reduced forms of D have for n, each by its stabilizer, and of the roots."""
    # A stabilizer has 2, 4 or 6 turns.
    total = sum([12 // len(stabilizer(f)) * len(proper_pairs(f, n)) for f in reduced_forms(D)])
    return (lowest(total, 12), len(middle_roots(D, n)))
