"""Answers with papers."""

from numberpapers.common import combined, common_part
from numberpapers.errors import NotClaim
from numberpapers.fibonacci import round_by
from numberpapers.foursquares import four_squares
from numberpapers.judging import divides, wrong_pair
from numberpapers.knownparts import check_known, told_parts
from numberpapers.logs import log_by
from numberpapers.orders import has_root, order_by, root_by
from numberpapers.pell import pell_below, root_river
from numberpapers.perfect import perfect_by
from numberpapers.powers import power, raised
from numberpapers.primepapers import MOST_TRIED, product_of_powers
from numberpapers.rests import first_clash, together
from numberpapers.sayings import claim_breach
from numberpapers.soft import SURE, TRIED, generator_or_witness, witness_of_twelve
from numberpapers.squareroots import square_by
from numberpapers.told import told_by
from numberpapers.trials import divisor_from
from numberpapers.twosquares import two_by
from numberpapers.unitparts import count_rows, product_rows, told_unit_parts
from numberpapers.wholeparts import is_product


def prime_answer(n, known):
    """("is", paper) or ("not", paper), by whether n is prime."""
    for q, paper in known:
        if q == n:
            return ("is", paper)
    if n < 2:
        return ("not", ("small",))
    d = divisor_from(n, 2, TRIED)
    if 0 < d < n:
        return ("not", ("divisor", d))
    if n <= MOST_TRIED:
        return ("is", ("tried", n))
    a = witness_of_twelve(n) if n >= SURE else 0
    if a > 0:
        return ("not", ("strong", a))
    parts = told_parts(n - 1, known)
    word, a = generator_or_witness(n, [(q, e) for q, e, _ in parts])
    if word == "strong":
        return ("not", ("strong", a))
    return ("is", ("part", n, tuple([(q, e, a, paper) for q, e, paper in parts])))


def answer_prime(claim, known):
    """The word of the saying that is so, and a paper of it; all functions in the table below return the like."""
    return prime_answer(claim[1], known)


def answer_whole(claim, known):
    """Of ("whole", n, row)."""
    _, n, row = claim
    wrong = wrong_pair(row)
    if wrong is not None:
        return ("not", ("row", wrong))
    if not is_product(n, row):
        return ("not", ("product",))
    papers = []
    for place, (p, _) in enumerate(row):
        word, paper = prime_answer(p, known)
        if word == "not":
            return ("not", ("inner", place, paper))
        papers.append(paper)
    return ("is", tuple(papers))


def answer_common(claim, known):
    """Of ("common", a, b, g)."""
    _, a, b, g = claim
    if g < 0:
        return ("not", ("sign",))
    if not divides(g, a) or not divides(g, b):
        return ("not", ("lacks",))
    greatest, x, y = combined(a, b)
    return ("is", (x, y)) if g == greatest else ("not", ("more", greatest))


def answer_rests(claim, known):
    """Of ("rests", row)."""
    row = claim[1]
    clash = first_clash(row)
    if clash is None:
        return ("is", (together(row)[0],))
    i, j = clash
    _, x, y = combined(row[i][1], row[j][1])
    return ("not", ("clash", i, j, x, y))


def answer_order(claim, known):
    """Of ("order", a, n, d)."""
    _, a, n, d = claim
    return order_by(a, n, d, known)


def whole_and_units(n, parts):
    """A whole paper of n by its prime parts, and the rows of how many units it has."""
    whole = ("whole parts", n, tuple([part[:3] for part in parts]))
    return (whole, product_rows([count_rows(part) for part in parts]))


def answer_root(claim, known):
    """Of ("root", g, n)."""
    _, g, n = claim
    whole, rows = whole_and_units(n, told_unit_parts(n, known))
    common = common_part(g, n)
    if common > 1:
        return ("not", ("common", common))
    count = product_of_powers(rows)
    for q, _, _ in rows:
        if power(g, count // q, n) == 1:
            return ("not", ("less", whole, q))
    return ("is", (whole, rows))


def answer_rooted(claim, known):
    """Of ("rooted", n)."""
    n = claim[1]
    parts = told_unit_parts(n, known)
    if has_root(parts):
        whole, rows = whole_and_units(n, parts)
        return ("is", (root_by(n, rows), (whole, rows)))
    if n % 8 == 0:
        return ("not", ("eight",))
    # The greatest prime is odd, and what else divides n is more than 2.
    u = raised(parts[-1][0], parts[-1][1])
    _, x, y = combined(u, n // u)
    return ("not", ("two", u, n // u, x, y))


def answer_power(claim, known):
    """Of ("power", a, b, n)."""
    _, a, b, n = claim
    return log_by(a, b, told_unit_parts(n, known))


def answer_square(claim, known):
    """Of ("square", a, n)."""
    _, a, n = claim
    return square_by(a, told_parts(n, known))


def answer_two(claim, known):
    """Of ("two squares", n)."""
    n = claim[1]
    return ("is", (0, 0)) if n == 0 else two_by(told_parts(n, known))


def answer_four(claim, known):
    """Of ("four squares", n)."""
    return ("is", four_squares(claim[1]))


def answer_tells(claim, known):
    """Of ("tells", f, n)."""
    _, f, n = claim
    told = told_by(f, n, told_parts(n, known))
    return ("is", told[1:]) if told[0] == "pair" else ("not", told)


def answer_minus_one(claim, known):
    """Of ("minus one", d)."""
    d = claim[1]
    pair = pell_below(d)
    return ("not", (root_river(d)[0],)) if pair is None else ("is", pair)


def answer_perfect(claim, known):
    """Of ("perfect", n)."""
    n = claim[1]
    return perfect_by(n, told_parts(n, known))


def answer_circle(claim, known):
    """Of ("circle", n, x, p)."""
    _, n, x, p = claim
    word, paper = prime_answer(p, known)
    if word == "not":
        return ("not", ("inner", paper))
    if n % p == 0:
        return ("not", ("divides",))
    word, row = order_by(x % p, p, n, known)
    return ("is", (paper, row)) if word == "is" else ("not", ("order", row))


def answer_round(claim, known):
    """Of ("round", m, r)."""
    _, m, r = claim
    return round_by(m, r, known)


ANSWERS = {
    "prime": answer_prime, "whole": answer_whole, "common": answer_common, "rests": answer_rests,
    "order": answer_order, "root": answer_root, "rooted": answer_rooted, "power": answer_power,
    "square": answer_square, "two squares": answer_two, "four squares": answer_four, "tells": answer_tells,
    "minus one": answer_minus_one, "perfect": answer_perfect, "circle": answer_circle, "round": answer_round,
}


def answer(claim, known=()):
    """(saying, paper) with the saying of a claim that is so, and a paper of it."""
    check_known(known)
    return answer_by(claim, known)


def answer_by(claim, known):
    """The same where the papers of known are right."""
    breach = claim_breach(claim)
    if breach is not None:
        raise NotClaim(breach[0], breach[1])
    answer_of = ANSWERS[claim[0]]
    word, paper = answer_of(claim, known)
    return ((word, claim), paper)
