"""Orders of units, with papers, and roots, whose powers are all units."""

from numberpapers.common import common_part
from numberpapers.errors import NoRoot
from numberpapers.knownparts import check_known, told_parts
from numberpapers.powers import power
from numberpapers.primepapers import product_of_powers
from numberpapers.unitparts import count_rows, joined_rows, part_orders, unit_parts


def order_of(a, n, known=()):
    """The least d from 1 on with a ** d equal to 1 modulo n."""
    return product_of_powers(order_paper(a, n, known))


def order_paper(a, n, known=()):
    """The rows (q, e, paper) of the order of a unit a."""
    return joined_rows(part_orders(a, unit_parts(n, known, (a,))))


def order_denial(a, n, d, known=()):
    """A paper that d is not the order of a, or None if it is."""
    check_known(known)
    word, paper = order_by(a, n, d, known)
    return paper if word == "not" else None


def order_by(a, n, d, known):
    """("is", paper) or ("not", paper), by whether d is the order of a."""
    if power(a, d, n) != 1:
        return ("not", ("far",))
    rows = told_parts(d, known)
    for q, _, _ in rows:
        if power(a, d // q, n) == 1:
            return ("not", ("short", q))
    return ("is", rows)


def least_root(n, known=()):
    """The least root of n."""
    parts = unit_parts(n, known, ())
    if not has_root(parts):
        raise NoRoot()
    return root_by(n, joined_rows([count_rows(part) for part in parts]))


def has_root(parts):
    """Whether a number of these prime parts has a root."""
    if parts[0][0] > 2:
        return len(parts) == 1
    if parts[0][1] == 1:
        return len(parts) <= 2
    return parts[0][1] == 2 and len(parts) == 1


def root_by(n, rows):
    """The least root of n, which has some; rows those of how many units n has."""
    count = product_of_powers(rows)
    g = 1
    while common_part(g, n) > 1 or comes_early(g, n, count, rows):
        g += 1
    return g


def comes_early(g, n, count, rows):
    """Whether g comes to 1 modulo n with the exponent count divided by a prime of it."""
    for row in rows:
        if power(g, count // row[0], n) == 1:
            return True
    return False
