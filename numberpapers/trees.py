"""Trees of primes."""

from numberpapers.errors import NotPrime, TooHard
from numberpapers.kinds import is_between, is_from, is_number, is_tuple, leaves
from numberpapers.powers import power, raised_upto
from numberpapers.soft import SURE, TRIED, generator_or_witness, soft_links, witness_of_twelve
from numberpapers.trials import divisor_from

MOST_POWER = 1000


def is_tree(value):
    """Whether a value is a tree of its first entry."""
    if not is_tuple(value, 3) or not is_number(value[0]):
        return False
    waiting = [(value[0], value)]
    while waiting != []:
        p, tree = waiting.pop()
        rows = tree_rows(p, tree)
        if rows is None:
            return False
        waiting.extend(rows)
    return True


def tree_rows(p, value):
    """The pairs (q, tree) of the rows of a tree of p that is right but for these trees, otherwise None."""
    if not is_tuple(value, 3) or not is_number(value[0]) or value[0] != p:
        return None
    _, g, rows = value
    if not is_between(g, 1, p - 1) or not are_rows(rows, 3):
        return None
    product = 1
    for q, e, _ in rows:
        product *= raised_upto(q, e, p)
        if product >= p:
            return None
    if product != p - 1 or not is_order_shown(g, p, rows):
        return None
    return [(q, tree) for q, _, tree in rows]


def are_rows(value, size):
    """Whether a value is a tuple of tuples (q, e, ..) of a size, the q from 2 ascending, each e from 1 to 1000."""
    if not isinstance(value, tuple):
        return False
    last = 1
    for row in value:
        if not is_tuple(row, size) or not is_from(row[0], last + 1) or not is_between(row[1], 1, MOST_POWER):
            return False
        last = row[0]
    return True


def is_order_shown(g, p, rows):
    """Whether modulo p the (p - 1)-th power of g is 1, and for each q of the rows its ((p - 1) // q)-th is not."""
    if power(g, p - 1, p) != 1 % p:
        return False
    for row in rows:
        if power(g, (p - 1) // row[0], p) == 1:
            return False
    return True


def tree_of(p):
    """A tree of a prime p."""
    answer = tree_or_witness(p)
    if answer[0] != "tree":
        raise NotPrime()
    return answer[1]


def tree_or_witness(n):
    """("tree", tree) with a tree of n, or a witness that n is not prime."""
    if n < 2:
        return ("small",)
    d = divisor_from(n, 2, TRIED)
    if 0 < d < n:
        return ("divisor", d)
    if n >= SURE:
        a = witness_of_twelve(n)
        if a > 0:
            return ("strong", a)
    links = soft_links(n - 1)
    if links is None:
        raise TooHard(TRIED)
    word, a = generator_or_witness(n, links[0][0])
    if word == "strong":
        return ("strong", a)
    return ("tree", (n, a, linked_rows(links)))


def linked_rows(links):
    """The triples (q, e, tree) of all primes that divide a soft number, by its links."""
    rows = ()
    # From the last link on, so that great primes within great primes call nothing within one another.
    for parts, great, g in reversed(links):
        tree = (great, g, rows)
        rows = tuple([(q, e, tree if q == great else tree_of(q)) for q, e in parts])
    return rows


def entries(paper):
    """How many numbers stand in a nest of tuples."""
    return len([value for value in leaves(paper) if is_number(value)])
