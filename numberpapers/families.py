"""Numbers of one kind whose papers are near at hand."""

from numberpapers.primepapers import lucas_number
from numberpapers.trials import divisor_from
from numberpapers.witnesses import is_strong


def mersenne(p):
    """("prime", paper) with a Lucas paper of 2 ** p - 1, or ("witness", witness)."""
    n = (1 << p) - 1
    d = divisor_from(p, 2, p)
    if d < p:
        return ("witness", ("divisor", (1 << d) - 1))
    if comes_to_nought(p, n):
        rows = ((2, p, ("tried", 2)),)
        return ("prime", ("lucas", n, 1, lucas_number(n, rows), rows))
    a = 2
    while not is_strong(n, a):
        a += 1
    return ("witness", ("strong", a))


def comes_to_nought(p, n):
    """Whether 4, squared less 2, p - 2 times, modulo n, comes to 0."""
    found = 4
    for _ in range(p - 2):
        found = (found * found - 2) % n
    return found == 0
