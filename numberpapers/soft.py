"""Soft numbers: those whose parts can be told."""

from numberpapers.powers import power
from numberpapers.roots import whole_power
from numberpapers.trials import taken_out
from numberpapers.witnesses import is_strong

# Primes up to this are tried one by one, so what is left below its square is prime.
TRIED = 10 ** 5
SURE = 10 ** 10

TWELVE = (2, 3, 5, 7, 11, 13, 17, 19, 23, 29, 31, 37)


def leftover_of(n):
    """The pairs (p, e) of the primes up to 10 ** 5 with their full powers in n, and the leftover of n."""
    return taken_out(n, TRIED)


def passes_twelve(n):
    """Whether none of the twelve primes up to 37 is the number of a strong witness of n."""
    return witness_of_twelve(n) == 0


def witness_of_twelve(n):
    """The first of the twelve primes that is the number of a strong witness of n, or 0."""
    for a in TWELVE:
        if a <= n - 2 and is_strong(n, a):
            return a
    return 0


def is_soft(n):
    """Whether n is soft."""
    return soft_links(n) is not None


def soft_links(n):
    """The links (parts, r, g) of a soft n, of r - 1 for its great prime r, and so on, or None if n is not soft.

    parts are the pairs (p, e) of all primes with their full powers, r is the prime among them from 10 ** 10 on, g a
    number of which r - 1 is the order modulo r; in the last link, which has no such prime, both are 0.
    """
    found = []
    great = SURE
    while great >= SURE:
        row, left = leftover_of(n)
        great, k = whole_power(left) if left > 1 else (0, 0)
        # Few numbers that are not prime come to the second question.
        if great >= SURE and not passes_twelve(great):
            return None
        found.append((row + ((great, k),) if left > 1 else row, great))
        n = great - 1
    return with_generators(found)


def with_generators(found):
    """The links of soft_links from their pairs (parts, r), or None if some r is not prime."""
    links = [(found[-1][0], 0, 0)]
    # Whether r is prime can be told when the primes of r - 1 are sure, so the last one comes first.
    for parts, great in found[-2::-1]:
        word, g = generator_or_witness(great, links[-1][0])
        if word == "strong":
            return None
        links.append((parts, great, g))
    return links[::-1]


def generator_or_witness(n, parts):
    """("generator", g) for a prime n, ("strong", a) for any other odd one; parts are the pairs (q, e) of n - 1."""
    for a in range(2, n):
        # A number whose powers only come to 1 at n - 1 shows that n is prime, so one of both comes.
        if a <= n - 2 and is_strong(n, a):
            return ("strong", a)
        if is_generator(a, n, parts):
            return ("generator", a)
    return ("generator", 1)


def is_generator(g, n, parts):
    """Whether no power of g with the exponent (n - 1) // q is 1 modulo n, for the pairs (q, e) of parts."""
    for q, _ in parts:
        if power(g, (n - 1) // q, n) == 1:
            return False
    return True
