"""Whole papers: the prime parts of a number, each with its paper."""

from numberpapers.errors import TooHard
from numberpapers.kinds import is_told
from numberpapers.knownparts import checked_parts
from numberpapers.powers import raised_upto
from numberpapers.primepapers import is_prime_paper, is_same
from numberpapers.roots import whole_power
from numberpapers.soft import TRIED, soft_links
from numberpapers.trees import are_rows, linked_rows
from numberpapers.trials import divisor_from


def whole_breach(n, value):
    """None for a whole paper of n, otherwise -1, the index of the first wrong row, or the number of rows."""
    if not is_told(value, "whole parts", 3) or not is_same(value[1], n) or not are_rows(value[2], 3):
        return -1
    rows = value[2]
    # The last p is the greatest one.
    if rows != () and rows[-1][0] > n:
        return -1
    for place, (p, _, paper) in enumerate(rows):
        if not is_prime_paper(p, paper):
            return place
    return None if is_product(n, rows) else len(rows)


def is_product(n, rows):
    """Whether n is the product of all p ** e of rows that begin with p and e, p from 2 on."""
    product = 1
    for row in rows:
        product *= raised_upto(row[0], row[1], n)
        # Great powers of many rows are not worked out beyond n.
        if product > n:
            return False
    return product == n


def whole_parts(n, known=()):
    """A whole paper of n."""
    return ("whole parts", n, checked_parts(n, known))


def either(n):
    """("prime", paper) or ("parts", a, b) with a * b = n."""
    d = divisor_from(n, 2, TRIED)
    if 0 < d < n:
        return ("parts", d, n // d)
    m, e = whole_power(n)
    if e > 1:
        return ("parts", m, n // m)
    links = soft_links(n)
    if links is None:
        raise TooHard(TRIED)
    # Without small primes and no power, what is soft is prime: there is one row.
    _, _, tree = linked_rows(links)[0]
    return ("prime", ("tree", tree))
