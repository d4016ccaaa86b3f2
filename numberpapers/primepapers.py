"""Papers of primes."""

from numberpapers.common import common_part
from numberpapers.errors import NotPaper, NotPrime
from numberpapers.kinds import is_between, is_number, is_told
from numberpapers.lucas import lucas_at
from numberpapers.powers import power, raised
from numberpapers.sieves import is_tried
from numberpapers.trees import are_rows, tree_or_witness, tree_rows
from numberpapers.trials import height_in
from numberpapers.witnesses import is_strong

MOST_TRIED = 10 ** 6


def prime_breach(n, value):
    """None for a prime paper of n, otherwise the path of the first place that breaks its rule."""
    waiting = [(False, n, value, ())]
    while waiting != []:
        is_in_tree, number, paper, path = waiting.pop()
        inner = places_within(is_in_tree, number, paper)
        if inner is None:
            return path
        places = [(deep, q, sub, path + (i,)) for i, (deep, q, sub) in enumerate(inner)]
        # The first row comes last, so that it is the next one to be taken.
        waiting.extend(places[::-1])
    return None


def is_prime_paper(n, value):
    """Whether a value is a prime paper of n."""
    return prime_breach(n, value) is None


def places_within(is_in_tree, n, value):
    """The triples (is_in_tree, q, paper) of the rows of a place, or None if the place breaks its rule."""
    if is_in_tree:
        return marked(tree_rows(n, value), True)
    if is_told(value, "tree", 2):
        return marked(tree_rows(n, value[1]), True)
    if is_told(value, "part", 3) and is_same(value[1], n):
        return marked(part_rows(n, value[2]), False)
    if is_told(value, "lucas", 5) and is_same(value[1], n):
        return marked(lucas_rows(n, value[2], value[3], value[4]), False)
    if is_told(value, "tried", 2) and is_same(value[1], n) and 2 <= n <= MOST_TRIED and is_tried(n):
        return []
    return None


def marked(pairs, is_in_tree):
    """The triples (is_in_tree, q, paper) of the pairs (q, paper), or None if there are none to mark."""
    return None if pairs is None else [(is_in_tree, q, paper) for q, paper in pairs]


def is_same(value, n):
    """Whether a value is the number n."""
    return is_number(value) and value == n


def part_rows(n, rows):
    """The pairs (q, paper) of the rows of a part paper of n that is right but for these papers, otherwise None."""
    if n < 3 or n % 2 == 0 or not are_rows(rows, 4):
        return None
    for q, e, a, _ in rows:
        if e != height_in(n - 1, q) or not is_between(a, 2, n - 1) or not is_part_shown(n, q, a):
            return None
    if not is_enough(n, product_of_powers(rows)):
        return None
    return [(q, paper) for q, _, _, paper in rows]


def product_of_powers(rows):
    """The product of all q ** e of rows that begin with q and e."""
    product = 1
    for row in rows:
        product *= raised(row[0], row[1])
    return product


def is_enough(n, product):
    """Whether the square of a product is greater than n."""
    return product * product > n


def is_part_shown(n, q, a):
    """Whether a shows that the full power of q in n - 1 divides p - 1 for each prime p of n."""
    x = power(a, (n - 1) // q, n)
    return power(x, q, n) == 1 and common_part(x - 1, n) == 1


def lucas_rows(n, P, Q, rows):
    """The pairs (q, paper) of the rows of a Lucas paper of n that is right but for these papers, otherwise None."""
    if n < 5 or n % 2 == 0 or not is_between(P, 0, n - 1) or not is_between(Q, 1, n - 1) or not are_rows(rows, 3):
        return None
    for q, e, _ in rows:
        if e != height_in(n + 1, q):
            return None
    if not is_enough(n, product_of_powers(rows) - 1) or not is_lucas_shown(n, P, Q, rows):
        return None
    return [(q, paper) for q, _, paper in rows]


def is_lucas_shown(n, P, Q, rows):
    """Whether for each prime p of n the full powers in n + 1 of the rows' q divide p + 1 or p - 1, as P and Q show."""
    if common_part(2 * Q * (P * P - 4 * Q), n) > 1 or lucas_at(P, Q, n + 1, n)[0] != 0:
        return False
    for row in rows:
        if common_part(lucas_at(P, Q, (n + 1) // row[0], n)[0], n) > 1:
            return False
    return True


def told_prime(n):
    """("prime", paper) with a prime paper of n, or ("witness", witness)."""
    answer = tree_or_witness(n)
    return ("prime" if answer[0] == "tree" else "witness", answer)


def paper_by(n, primes):
    """A part paper or a Lucas paper of n by primes with papers, or None if they are too few."""
    for place, (q, paper) in enumerate(primes):
        if not is_prime_paper(q, paper):
            raise NotPaper(place)
    below, above = rows_in(n - 1, primes), rows_in(n + 1, primes)
    if is_enough(n, product_of_powers(below)):
        needed = needed_rows(n, below, 0)
        return ("part", n, tuple([(q, e, part_number(n, q), paper) for q, e, paper in needed]))
    if is_enough(n, product_of_powers(above) - 1):
        needed = needed_rows(n, above, 1)
        return ("lucas", n, 1, lucas_number(n, needed), needed)
    return None


def rows_in(n, primes):
    """The triples (q, e, paper) of the primes with papers that divide n, with their full powers."""
    return tuple([(q, height_in(n, q), paper) for q, paper in primes if n % q == 0])


def needed_rows(n, rows, off):
    """Rows of the triples that are enough for n, when off is taken from their product."""
    product = product_of_powers(rows)
    needed = []
    for q, e, paper in rows:
        rest = product // raised(q, e)
        # Small primes come first, and it is mostly they that can be done without.
        if is_enough(n, rest - off):
            product = rest
        else:
            needed.append((q, e, paper))
    return tuple(needed)


def part_number(n, q):
    """The least a that a part paper of n may have beside q."""
    for a in range(2, n):
        if is_part_shown(n, q, a):
            return a
        # Not prime: then no numbers fit for all q, and one of the next ones is a strong witness.
        if a <= n - 2 and is_strong(n, a):
            break
    raise NotPrime()


def lucas_number(n, rows):
    """The least Q that a Lucas paper of n with these rows and the P of 1 may have."""
    for Q in range(1, n):
        if is_lucas_shown(n, 1, Q, rows):
            return Q
        # As in part_number.
        if Q < n - 2 and is_strong(n, Q + 1):
            break
    raise NotPrime()
