"""Claims and sayings."""

from math import gcd, isqrt

from numberpapers.forms import discriminant, form_breach
from numberpapers.kinds import are_numbers, is_between, is_from, is_number, is_told, leaves

MOST = 10 ** 40
MOST_HUGE = (10 ** 60) ** 5
MOST_PAIRS = 1000
MOST_EXPONENT = 1000
MOST_RESTS = 40
MOST_SURD = 10 ** 12

KINDS = (
    "prime", "whole", "common", "rests", "order", "root", "rooted", "power", "square", "two squares", "four squares",
    "tells", "minus one", "perfect", "circle", "round",
)

# How many entries a claim has, with its kind.
SIZES = {
    "prime": 2, "whole": 3, "common": 4, "rests": 2, "order": 4, "root": 3, "rooted": 2, "power": 4, "square": 3,
    "two squares": 2, "four squares": 2, "tells": 3, "minus one": 2, "perfect": 2, "circle": 4, "round": 3,
}


def first_wrong(fine):
    """The place of the first False, counted from 1, or 0."""
    for place, is_fine in enumerate(fine):
        if not is_fine:
            return place + 1
    return 0


def prime_place(claim):
    """The index of the first entry of the claim that is not as told, or 0."""
    return first_wrong([is_between(claim[1], 0, MOST_HUGE)])


def whole_place(claim):
    """The same; likewise below."""
    return first_wrong([is_between(claim[1], 1, MOST_HUGE), is_row_of_powers(claim[2])])


def is_row_of_pairs(value, low, high):
    """Whether a value is a tuple of so many pairs of numbers."""
    if not isinstance(value, tuple) or not low <= len(value) <= high:
        return False
    for pair in value:
        if not are_numbers(pair, 2):
            return False
    return True


def is_row_of_powers(value):
    """Whether a value is a row of pairs (p, e) in their ranges."""
    if not is_row_of_pairs(value, 0, MOST_PAIRS):
        return False
    for p, e in value:
        if abs(p) > MOST_HUGE or abs(e) > MOST_EXPONENT:
            return False
    return True


def common_place(claim):
    """The index of the first integer that is too great or none, or 0."""
    return first_wrong([is_between(entry, -MOST_HUGE, MOST_HUGE) for entry in claim[1:]])


def rests_place(claim):
    """1 for what is no row of pairs (r, m) in their ranges, or 0."""
    return first_wrong([is_row_of_pairs(claim[1], 1, MOST_RESTS) and are_rests(claim[1])])


def are_rests(row):
    """Whether all pairs of a row are (r, m) in their ranges."""
    for r, m in row:
        if not 1 <= m <= MOST or not 0 <= r < m:
            return False
    return True


def is_modulus_of(value, low, rests):
    """Whether a value is a number from low to 10 ** 40 and above all these numbers."""
    return is_between(value, low, MOST) and max(rests) < value


def order_place(claim):
    """The first wrong place of ("order", a, n, d); the bound of a belongs to n."""
    _, a, n, d = claim
    return first_wrong([is_from(a, 0), is_from(a, 0) and is_modulus_of(n, 2, [a]), is_between(d, 1, MOST)])


def root_place(claim):
    """The first wrong place of ("root", g, n)."""
    _, g, n = claim
    return first_wrong([is_from(g, 0), is_from(g, 0) and is_modulus_of(n, 2, [g])])


def rooted_place(claim):
    """The first wrong place of ("rooted", n)."""
    return first_wrong([is_between(claim[1], 2, MOST)])


def power_place(claim):
    """The first wrong place of ("power", a, b, n); that a and b are units belongs to n."""
    _, a, b, n = claim
    fine = [is_from(a, 0), is_from(b, 0)]
    return first_wrong(fine + [fine == [True, True] and is_modulus_of(n, 2, [a, b]) and gcd(a, n) == gcd(b, n) == 1])


def square_place(claim):
    """The first wrong place of ("square", a, n)."""
    _, a, n = claim
    return first_wrong([is_from(a, 0), is_from(a, 0) and is_modulus_of(n, 1, [a])])


def squares_place(claim):
    """The first wrong place of ("two squares", n) and of ("four squares", n)."""
    return first_wrong([is_between(claim[1], 0, MOST)])


def tells_place(claim):
    """The first wrong place of ("tells", f, n); that n has no common part with f's discriminant belongs to n."""
    _, f, n = claim
    if form_breach(f) is not None:
        return 1
    return 0 if is_between(n, 1, MOST) and gcd(n, 2 * discriminant(f)) == 1 else 2


def minus_one_place(claim):
    """The first wrong place of ("minus one", d)."""
    d = claim[1]
    return first_wrong([is_between(d, 2, MOST_SURD) and isqrt(d) * isqrt(d) != d])


def perfect_place(claim):
    """The first wrong place of ("perfect", n)."""
    return first_wrong([is_between(claim[1], 1, MOST)])


def circle_place(claim):
    """The first wrong place of ("circle", n, x, p)."""
    _, n, x, p = claim
    return first_wrong([is_between(n, 1, 300), is_between(x, -1000, 1000), is_between(p, 2, MOST)])


def round_place(claim):
    """The first wrong place of ("round", m, r)."""
    _, m, r = claim
    return first_wrong([is_between(m, 1, MOST), is_between(r, 1, MOST)])


PLACES = {
    "prime": prime_place, "whole": whole_place, "common": common_place, "rests": rests_place, "order": order_place,
    "root": root_place, "rooted": rooted_place, "power": power_place, "square": square_place,
    "two squares": squares_place, "four squares": squares_place, "tells": tells_place, "minus one": minus_one_place,
    "perfect": perfect_place, "circle": circle_place, "round": round_place,
}


def claim_breach(value):
    """None for a claim, otherwise the rule that is broken and its place."""
    if not isinstance(value, tuple) or len(value) == 0 or not isinstance(value[0], str):
        return ("form", -1)
    if value[0] not in KINDS:
        return ("kind", 0)
    if len(value) != SIZES[value[0]]:
        return ("many", -1)
    place_of = PLACES[value[0]]
    place = place_of(value)
    return None if place == 0 else ("entry", place)


def saying_breach(value):
    """None for a saying, otherwise the rule that is broken and its place."""
    if not is_told(value, "is", 2) and not is_told(value, "not", 2):
        return ("form", -1)
    return claim_breach(value[1])


def opposite(saying):
    """The other saying of the same claim."""
    word, claim = saying
    return ("not" if word == "is" else "is", claim)


def size_of(paper):
    """How many integers and strings stand in a nest of tuples."""
    return len([value for value in leaves(paper) if is_number(value) or isinstance(value, str)])
