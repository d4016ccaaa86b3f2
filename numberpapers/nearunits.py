"""Logarithms of units near to 1."""

from numberpapers.errors import NotNear, NotPrime, NotUnit
from numberpapers.heights import check_prime
from numberpapers.powers import power, raised
from numberpapers.rests import unit_inverse


def check_odd(p):
    """Refuse what is no odd prime up to 1000."""
    check_prime(p)
    if p == 2:
        raise NotPrime()


def check_near(p, a):
    """Refuse what is not 1 modulo p."""
    if a % p != 1:
        raise NotNear()


def log_rest(p, k, a):
    """(a ** (p ** k) - 1) / p ** k modulo p ** k."""
    check_odd(p)
    check_near(p, a)
    full = raised(p, k)
    return (power(a, full, full * full) - 1) // full % full


def exponent_of(p, k, a):
    """The e from 0 to p ** (k - 1) - 1 for which the e-th power of 1 + p is a modulo p ** k."""
    check_odd(p)
    check_near(p, a)
    full = raised(p, k - 1)
    # Both logarithms are multiples of p, that of 1 + p of no greater power of p.
    return log_rest(p, k, a) // p * unit_inverse(log_rest(p, k, 1 + p) // p, full) % full


def split_unit(p, k, a):
    """(w, e) with the (p - 1)-th power of w equal to 1, and a equal to w * (1 + p) ** e, modulo p ** k."""
    check_odd(p)
    if a % p == 0:
        raise NotUnit()
    full = raised(p, k)
    w = power(a, full // p, full)
    return (w, exponent_of(p, k, a * unit_inverse(w, full)))
