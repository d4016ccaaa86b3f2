"""The coarsest base of several numbers."""

from math import gcd

from numberpapers.kinds import same_nest
from numberpapers.trials import height_in


def coarse_base(numbers):
    """The coarsest base of numbers, and the exponents of its entries in each of them."""
    # Common parts and quotients alone tell no two primes apart whose exponents in the numbers are in one ratio, and
    # leave each entry as small as that ratio lets it be: so what they come to is the coarsest base.
    base = tuple(sorted(parts_apart(numbers)))
    return (base, tuple([tuple([height_in(n, entry) for entry in base]) for n in numbers]))


def parts_apart(numbers):
    """Numbers from 2 on, any two without a common part, of whose powers all the numbers are products."""
    parts = []
    for n in numbers:
        parts = refined_by(n, parts)
    return parts


def refined_by(n, parts):
    """The same for one number more, by what the numbers ahead of it come to."""
    refined = []
    for part in parts:
        n, shared = without_primes_of(n, part)
        refined.extend(pair_apart(part, shared))
    if n > 1:
        refined.append(n)
    return refined


def without_primes_of(n, part):
    """n divided by the greatest number of no other primes than those of part, and this number."""
    shared = 1
    common = gcd(n, part)
    while common > 1:
        n = n // common
        shared = shared * common
        common = gcd(n, common)
    return (n, shared)


def pair_apart(one, other):
    """Numbers from 2 on, any two without a common part, of whose powers both are products; other has one's primes."""
    found = []
    waiting = [one, other]
    while waiting != []:
        a = waiting.pop()
        place = place_of_shared(found, a)
        if place < len(found):
            b = found.pop(place)
            common = gcd(a, b)
            waiting.extend([common, a // common, b // common])
        elif a > 1:
            found.append(a)
    return found


def place_of_shared(found, a):
    """The index of the first number that has a common part above 1 with a, or how many there are."""
    for place, b in enumerate(found):
        if gcd(a, b) > 1:
            return place
    return len(found)


def is_base(numbers, value):
    """Whether a value is the coarsest base of numbers with its exponents."""
    return same_nest(value, coarse_base(numbers))
