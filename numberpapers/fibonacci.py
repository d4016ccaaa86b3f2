"""Fibonacci's remainders and their rounds."""

from numberpapers.knownparts import check_known, checked_parts, told_parts
from numberpapers.lucas import lucas_at
from numberpapers.powers import raised
from numberpapers.primepapers import product_of_powers
from numberpapers.signs import euler
from numberpapers.unitparts import joined_rows, least_rows, product_rows

TWO = ((2, 1, ("tried", 2)),)
# The rounds of 2 and of 5.
THREE = ((3, 1, ("tried", 3)),)
TWENTY = ((2, 2, ("tried", 2)), (5, 1, ("tried", 5)))


def fibonacci_rest(k, m):
    """F(k) modulo m."""
    return lucas_at(1, -1, k, m)[0]


def is_round(m, r):
    """Whether m divides F(r) and F(r + 1) - 1."""
    return fibonacci_rest(r, m) == 0 and (fibonacci_rest(r + 1, m) - 1) % m == 0


def fibonacci_round(m, known=()):
    """The round of m."""
    return product_of_powers(round_paper(m, known))


def fibonacci_rank(m, known=()):
    """The rank of m."""
    def comes(d):
        """Whether m divides F(d)."""
        return fibonacci_rest(d, m) == 0

    return product_of_powers(least_rows(round_paper(m, known), comes))


def round_paper(m, known=()):
    """The rows (q, e, paper) of the round of m."""
    return joined_rows([part_round(part, known) for part in checked_parts(m, known)])


def part_round(part, known):
    """The rows of the round of a prime part."""
    p, k, paper = part
    full = raised(p, k)

    def comes(d):
        """Whether d is a multiple of the round of the prime part."""
        return is_round(full, d)

    rows = prime_rows(p, known)
    return least_rows(rows if k == 1 else product_rows([rows, ((p, k - 1, paper),)]), comes)


def prime_rows(p, known):
    """The rows of a multiple of the round of a prime p."""
    if p == 2:
        return THREE
    if p == 5:
        return TWENTY
    return told_parts(p - 1, known) if euler(5, p) == 1 else product_rows([told_parts(p + 1, known), TWO])


def round_denial(m, r, known=()):
    """A paper that r is not the round of m, or None if it is."""
    check_known(known)
    word, paper = round_by(m, r, known)
    return paper if word == "not" else None


def round_by(m, r, known):
    """("is", paper) or ("not", paper), by whether r is the round of m."""
    if not is_round(m, r):
        return ("not", ("far",))
    rows = told_parts(r, known)
    for q, _, _ in rows:
        if is_round(m, r // q):
            return ("not", ("short", q))
    return ("is", rows)
