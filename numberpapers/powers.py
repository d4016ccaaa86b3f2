"""Powers, of numbers and of rests."""


def power(a, e, n):
    """The e-th power of a modulo n."""
    found = 1 % n
    a = a % n
    for place in reversed(range(e.bit_length())):
        found = found * found % n
        if (e >> place) & 1:
            found = found * a % n
    return found


def raised(a, e):
    """The e-th power of a."""
    found = 1
    for place in reversed(range(e.bit_length())):
        found = found * found
        if (e >> place) & 1:
            found = found * a
    return found


def raised_upto(a, e, most):
    """The e-th power of a, both from 0 on, if it is at most so much, otherwise some number above most."""
    if a < 2:
        return a if e > 0 else 1
    found = 1
    for _ in range(e):
        found = found * a
        # A power of a great e is not worked out beyond its bound.
        if found > most:
            break
    return found
