"""The judge of papers."""

from numberpapers.divisors import sum_by
from numberpapers.fibonacci import is_round
from numberpapers.foursquares import is_four
from numberpapers.kinds import are_numbers, is_between, is_from, is_told, is_tuple
from numberpapers.pell import is_no_pell_below
from numberpapers.perfect import euclid_number
from numberpapers.powers import power
from numberpapers.primepapers import is_prime_paper, is_same
from numberpapers.sayings import saying_breach
from numberpapers.squareroots import is_square_bar, is_square_paper
from numberpapers.told import is_pair_told, is_told_paper
from numberpapers.trees import are_rows
from numberpapers.twosquares import is_two_paper
from numberpapers.unitjudging import is_log_bar, is_order_denial, is_order_row, is_root_shown, units_told
from numberpapers.wholeparts import is_product, whole_breach
from numberpapers.witnesses import is_witness


def prime_shown(claim, paper):
    """Whether a value is a paper of ("is", ("prime", n)); all functions in the tables below tell the like."""
    return is_prime_paper(claim[1], paper)


def prime_denied(claim, paper):
    """Of ("not", ("prime", n))."""
    return is_witness(claim[1], paper)


def wrong_pair(row):
    """The least index of a pair (p, e) with p below 2 or not above the one ahead, or e below 1, or None."""
    last = 1
    for place, (p, e) in enumerate(row):
        if p <= last or e < 1:
            return place
        last = p
    return None


def whole_shown(claim, paper):
    """Of ("is", ("whole", n, row))."""
    _, n, row = claim
    if not is_tuple(paper, len(row)) or wrong_pair(row) is not None or not is_product(n, row):
        return False
    for (p, _), inner in zip(row, paper):
        if not is_prime_paper(p, inner):
            return False
    return True


def whole_denied(claim, paper):
    """Of ("not", ("whole", n, row))."""
    _, n, row = claim
    wrong = wrong_pair(row)
    if wrong is not None:
        return is_told(paper, "row", 2) and is_same(paper[1], wrong)
    if is_told(paper, "product", 1):
        return not is_product(n, row)
    if not is_told(paper, "inner", 3) or not is_between(paper[1], 0, len(row) - 1):
        return False
    return is_witness(row[paper[1]][0], paper[2])


def divides(d, n):
    """Whether d divides n; 0 divides 0 alone."""
    return n == 0 if d == 0 else n % d == 0


def common_shown(claim, paper):
    """Of ("is", ("common", a, b, g))."""
    _, a, b, g = claim
    if not are_numbers(paper, 2) or g < 0 or not divides(g, a) or not divides(g, b):
        return False
    return a * paper[0] + b * paper[1] == g


def common_denied(claim, paper):
    """Of ("not", ("common", a, b, g))."""
    _, a, b, g = claim
    if is_told(paper, "sign", 1):
        return g < 0
    if is_told(paper, "lacks", 1):
        return not divides(g, a) or not divides(g, b)
    if not is_told(paper, "more", 2) or not are_numbers(paper[1:], 1):
        return False
    h = paper[1]
    return divides(h, a) and divides(h, b) and not divides(h, g)


def rests_shown(claim, paper):
    """Of ("is", ("rests", row))."""
    if not are_numbers(paper, 1):
        return False
    for r, m in claim[1]:
        if paper[0] % m != r:
            return False
    return True


def rests_denied(claim, paper):
    """Of ("not", ("rests", row))."""
    row = claim[1]
    if not is_told(paper, "clash", 5) or not are_numbers(paper[1:], 4):
        return False
    _, i, j, x, y = paper
    if not 0 <= i < j < len(row):
        return False
    (r, m), (s, k) = row[i], row[j]
    g = x * m + y * k
    return g >= 1 and m % g == 0 and k % g == 0 and (r - s) % g != 0


def order_shown(claim, paper):
    """Of ("is", ("order", a, n, d))."""
    _, a, n, d = claim
    return is_order_row(a, n, d, paper)


def order_denied(claim, paper):
    """Of ("not", ("order", a, n, d))."""
    _, a, n, d = claim
    return is_order_denial(a, n, d, paper)


def root_shown(claim, paper):
    """Of ("is", ("root", g, n))."""
    return is_root_shown(claim[1], claim[2], paper)


def root_denied(claim, paper):
    """Of ("not", ("root", g, n))."""
    _, g, n = claim
    if is_told(paper, "common", 2):
        return is_from(paper[1], 2) and g % paper[1] == 0 and n % paper[1] == 0
    if not is_told(paper, "less", 3) or not is_from(paper[2], 2) or whole_breach(n, paper[1]) is not None:
        return False
    count, q = units_told(paper[1]), paper[2]
    return count % q == 0 and power(g, count // q, n) == 1


def rooted_shown(claim, paper):
    """Of ("is", ("rooted", n))."""
    n = claim[1]
    return is_tuple(paper, 2) and is_between(paper[0], 0, n - 1) and is_root_shown(paper[0], n, paper[1])


def rooted_denied(claim, paper):
    """Of ("not", ("rooted", n))."""
    n = claim[1]
    if is_told(paper, "eight", 1):
        return n % 8 == 0
    if not is_told(paper, "two", 5) or not are_numbers(paper[1:], 4):
        return False
    _, u, v, x, y = paper
    return u > 2 and v > 2 and u * v == n and u * x + v * y == 1


def power_shown(claim, paper):
    """Of ("is", ("power", a, b, n))."""
    _, a, b, n = claim
    return is_tuple(paper, 1) and is_between(paper[0], 0, 10 ** 40) and power(a, paper[0], n) == b


def power_denied(claim, paper):
    """Of ("not", ("power", a, b, n))."""
    _, a, b, n = claim
    if is_told(paper, "four", 1):
        return n % 4 == 0 and a % 4 == 1 and b % 4 == 3
    return is_log_bar(a, b, n, paper)


def square_shown(claim, paper):
    """Of ("is", ("square", a, n))."""
    return is_square_paper(claim[1], claim[2], paper)


def square_denied(claim, paper):
    """Of ("not", ("square", a, n))."""
    return is_square_bar(claim[1], claim[2], paper)


def two_shown(claim, paper):
    """Of ("is", ("two squares", n))."""
    return is_two_paper(claim[1], ("is", paper))


def two_denied(claim, paper):
    """Of ("not", ("two squares", n))."""
    return is_two_paper(claim[1], ("not", paper))


def four_shown(claim, paper):
    """Of ("is", ("four squares", n))."""
    return is_four(claim[1], paper)


def four_denied(claim, paper):
    """Of ("not", ("four squares", n)), of which there is none."""
    return False


def tells_shown(claim, paper):
    """Of ("is", ("tells", f, n))."""
    return is_tuple(paper, 2) and is_pair_told(claim[1], claim[2], paper[0], paper[1])


def tells_denied(claim, paper):
    """Of ("not", ("tells", f, n))."""
    return (is_told(paper, "no root", 3) or is_told(paper, "unlike", 3)) and is_told_paper(claim[1], claim[2], paper)


def minus_one_shown(claim, paper):
    """Of ("is", ("minus one", d))."""
    return are_numbers(paper, 2) and paper[0] * paper[0] - claim[1] * paper[1] * paper[1] == -1


def minus_one_denied(claim, paper):
    """Of ("not", ("minus one", d))."""
    return is_tuple(paper, 1) and is_no_pell_below(claim[1], paper[0])


def has_sum(n, value, is_double):
    """Whether a value is ("sum", whole) with a whole paper of n that tells the sum 2 * n, or another one."""
    if not is_told(value, "sum", 2) or whole_breach(n, value[1]) is not None:
        return False
    return (sum_by(value[1][2], 1) == 2 * n) == is_double


def perfect_shown(claim, paper):
    """Of ("is", ("perfect", n))."""
    n = claim[1]
    if not is_told(paper, "euclid", 3):
        return has_sum(n, paper, True)
    p = paper[1]
    return is_between(p, 2, 200) and n == euclid_number(p) and is_prime_paper((1 << p) - 1, paper[2])


def perfect_denied(claim, paper):
    """Of ("not", ("perfect", n))."""
    return has_sum(claim[1], paper, False)


def circle_shown(claim, paper):
    """Of ("is", ("circle", n, x, p))."""
    _, n, x, p = claim
    if not is_tuple(paper, 2) or n % p == 0 or not is_prime_paper(p, paper[0]):
        return False
    return is_order_row(x % p, p, n, paper[1])


def circle_denied(claim, paper):
    """Of ("not", ("circle", n, x, p))."""
    _, n, x, p = claim
    if is_told(paper, "inner", 2):
        return is_witness(p, paper[1])
    if is_told(paper, "divides", 1):
        return n % p == 0
    return is_told(paper, "order", 2) and is_order_denial(x % p, p, n, paper[1])


def round_shown(claim, paper):
    """Of ("is", ("round", m, r))."""
    _, m, r = claim
    if not are_rows(paper, 3) or not is_product(r, paper) or not is_round(m, r):
        return False
    for q, _, inner in paper:
        if is_round(m, r // q) or not is_prime_paper(q, inner):
            return False
    return True


def round_denied(claim, paper):
    """Of ("not", ("round", m, r))."""
    _, m, r = claim
    if is_told(paper, "far", 1):
        return not is_round(m, r)
    if not is_told(paper, "short", 2) or not is_between(paper[1], 2, r):
        return False
    return r % paper[1] == 0 and is_round(m, r // paper[1])


SHOWN = {
    "prime": prime_shown, "whole": whole_shown, "common": common_shown, "rests": rests_shown, "order": order_shown,
    "root": root_shown, "rooted": rooted_shown, "power": power_shown, "square": square_shown, "two squares": two_shown,
    "four squares": four_shown, "tells": tells_shown, "minus one": minus_one_shown, "perfect": perfect_shown,
    "circle": circle_shown, "round": round_shown,
}
DENIED = {
    "prime": prime_denied, "whole": whole_denied, "common": common_denied, "rests": rests_denied, "order": order_denied,
    "root": root_denied, "rooted": rooted_denied, "power": power_denied, "square": square_denied,
    "two squares": two_denied, "four squares": four_denied, "tells": tells_denied, "minus one": minus_one_denied,
    "perfect": perfect_denied, "circle": circle_denied, "round": round_denied,
}


def judge(saying, paper):
    """Whether the first value is a saying and the second one a paper of it."""
    if saying_breach(saying) is not None:
        return False
    word, claim = saying
    if word == "is":
        shown = SHOWN[claim[0]]
        return shown(claim, paper)
    denied = DENIED[claim[0]]
    return denied(claim, paper)
