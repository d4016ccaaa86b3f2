"""Papers of orders, roots and logarithms, judged."""

from math import gcd

from numberpapers.kinds import are_numbers, is_between, is_from, is_told, is_tuple
from numberpapers.powers import power, raised
from numberpapers.primepapers import is_prime_paper
from numberpapers.trees import are_rows
from numberpapers.wholeparts import is_product, whole_breach

MOST = 10 ** 40


def is_order_row(a, n, d, value):
    """Whether a value is a paper that a has the order d modulo n."""
    if not are_rows(value, 3) or not is_product(d, value) or power(a, d, n) != 1:
        return False
    for q, _, paper in value:
        if power(a, d // q, n) == 1 or not is_prime_paper(q, paper):
            return False
    return True


def is_order_denial(a, n, d, value):
    """Whether a value is a paper that a has not the order d modulo n."""
    if is_told(value, "far", 1):
        return power(a, d, n) != 1
    if not is_told(value, "short", 2) or not is_between(value[1], 2, d):
        return False
    return d % value[1] == 0 and power(a, d // value[1], n) == 1


def units_told(whole):
    """How many units the number of a whole paper has."""
    count = 1
    for p, e, _ in whole[2]:
        count *= raised(p, e - 1) * (p - 1)
    return count


def is_root_shown(g, n, value):
    """Whether a value is a paper that g is a root of n."""
    if not is_tuple(value, 2) or whole_breach(n, value[0]) is not None:
        return False
    return is_order_row(g, n, units_told(value[0]), value[1])


def is_log_bar(a, b, n, paper):
    """Whether a value is a paper of one of the other three sorts that b is no power of a modulo n."""
    if is_told(paper, "bar", 4):
        _, m, d, row = paper
        return is_order_modulo(a, n, m, d, row) and power(b, d, m) != 1
    if is_told(paper, "two", 8):
        return are_numbers(paper[1:], 7) and is_two_bar(a, b, n, paper)
    if not is_told(paper, "clash", 3) or not is_log_told(a, b, n, paper[1]) or not is_log_told(a, b, n, paper[2]):
        return False
    (_, d, _, e), (_, t, _, u) = paper[1:]
    return (e - u) % gcd(d, t) != 0


def is_order_modulo(a, n, m, d, row):
    """Whether values are a divisor m of n from 2 on, and the order of a modulo m with its paper."""
    return is_between(m, 2, n) and n % m == 0 and is_between(d, 1, MOST) and is_order_row(a, m, d, row)


def is_log_told(a, b, n, value):
    """Whether a value is (m, d, row, e), m a divisor of n, d the order of a modulo m, and b the e-th power there."""
    if not is_tuple(value, 4) or not is_from(value[3], 0):
        return False
    m, d, row, e = value
    return is_order_modulo(a, n, m, d, row) and (power(a, e, m) - b) % m == 0


def is_two_bar(a, b, n, paper):
    """Whether numbers (.., k, s, t, u, v, x, y) show that b is no power of a modulo 2 ** k."""
    _, k, s, t, u, v, x, y = paper
    if not 3 <= k <= n.bit_length() or n % (1 << k) != 0 or s not in (0, 1) or u not in (0, 1):
        return False
    full, half = 1 << (k - 2), 1 << (k - 3)
    if not 0 <= t < full or not 0 <= v < full:
        return False
    if not is_two_power(a, k, s, t) or not is_two_power(b, k, u, v):
        return False
    return (x * s * half + y * t) % full == 0 and (x * u * half + y * v) % full != 0


def is_two_power(a, k, s, t):
    """Whether a is (-1) ** s * 5 ** t modulo 2 ** k."""
    found = power(5, t, 1 << k)
    return (a - (-found if s == 1 else found)) % (1 << k) == 0
