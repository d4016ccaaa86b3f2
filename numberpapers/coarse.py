"""The coarsest base of several numbers."""

from math import gcd

from numberpapers.kinds import same_nest
from numberpapers.powers import raised
from numberpapers.trials import height_in


def coarse_base(numbers):
    """The coarsest base of numbers, and the exponents of its entries in each of them."""
    joined = {}
    for part in parts_apart(numbers):
        exponents = [height_in(n, part) for n in numbers]
        common = common_of_all(exponents)
        key = tuple([e // common for e in exponents])
        # Parts whose exponents are in one ratio go together, in the power that takes out what these have in common.
        joined[key] = joined.get(key, 1) * raised(part, common)
    columns = sorted([(joined[key], key) for key in joined])
    table = [tuple([key[place] for _, key in columns]) for place in range(len(numbers))]
    return (tuple([entry for entry, _ in columns]), tuple(table))


def common_of_all(entries):
    """The greatest common part of numbers, 0 for none."""
    common = 0
    for entry in entries:
        common = gcd(common, entry)
    return common


def parts_apart(numbers):
    """Numbers from 2 on, any two without a common part, of whose powers all the numbers are products."""
    parts = []
    for n in numbers:
        refined = []
        for part in parts:
            n, shared = without_primes_of(n, part)
            refined.extend(pair_apart(part, shared))
        parts = refined if n == 1 else refined + [n]
    return parts


def without_primes_of(n, part):
    """n divided by the greatest number of no other primes than those of part, and this number."""
    shared = 1
    common = gcd(n, part)
    while common > 1:
        n = n // common
        shared = shared * common
        common = gcd(n, common)
    return (n, shared)


def pair_apart(one, other):
    """Numbers from 2 on, any two without a common part, of whose powers both are products; other has one's primes."""
    found = []
    waiting = [one, other]
    while waiting != []:
        a = waiting.pop()
        place = place_of_shared(found, a)
        if place < len(found):
            b = found.pop(place)
            common = gcd(a, b)
            waiting.extend([common, a // common, b // common])
        elif a > 1:
            found.append(a)
    return found


def place_of_shared(found, a):
    """The index of the first number that has a common part above 1 with a, or how many there are."""
    for place, b in enumerate(found):
        if gcd(a, b) > 1:
            return place
    return len(found)


def is_base(numbers, value):
    """Whether a value is the coarsest base of numbers with its exponents."""
    return same_nest(value, coarse_base(numbers))
