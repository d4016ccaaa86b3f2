"""Products of some of several numbers that are squares, or sets of primes which show that there are none."""

from math import isqrt

from numberpapers.errors import NotSmooth
from numberpapers.kinds import is_between, is_told, is_tuple
from numberpapers.sieves import is_tried
from numberpapers.soft import TRIED, leftover_of


def smooth_parts(rows):
    """For each entry the pairs (p, e) of its primes, none of them above 10 ** 5."""
    found = []
    for place, n in enumerate(rows):
        row, left = leftover_of(n)
        if left > 1:
            raise NotSmooth(place)
        found.append(row)
    return found


def square_subset(rows):
    """("subset", places) of entries whose product is a square, or ("apart", sets), which shows that there are none."""
    reduced = []
    for place, row in enumerate(smooth_parts(rows)):
        # Odd primes of the entry, and the places of the entries that are multiplied.
        odd = {p: True for p, e in row if e % 2 == 1}
        places = {place: True}
        for pivot, others, with_places in reduced:
            if pivot in odd:
                odd = unlike_keys(odd, others)
                places = unlike_keys(places, with_places)
        if len(odd) == 0:
            return ("subset", tuple(sorted(places)))
        reduced.append((min(list(odd)), odd, places))
    return ("apart", sets_apart(reduced))


def unlike_keys(one, other):
    """The keys that just one of two tables has."""
    found = {key: True for key in one if key not in other}
    for key in other:
        if key not in one:
            found[key] = True
    return found


def sets_apart(reduced):
    """For each entry primes whose exponents add up to an odd number in it, and to an even one in all others."""
    sets = []
    for wanted in range(len(reduced)):
        chosen = {}
        # The pivot of a row stands in no later row, so the last row comes first.
        for pivot, odd, places in reversed(reduced):
            met = len([p for p in chosen if p in odd])
            if (met % 2 == 1) != (wanted in places):
                chosen[pivot] = True
        sets.append(tuple(sorted(chosen)))
    return tuple(sets)


def subset_breach(rows, value):
    """None for one of the two answers, otherwise what is wrong."""
    parts = smooth_parts(rows)
    if is_told(value, "subset", 2) and are_places(value[1], len(rows)):
        return None if is_square_product(rows, value[1]) else ("square",)
    if not is_told(value, "apart", 2) or not are_sets(value[1], len(rows)):
        return ("form",)
    for i, primes in enumerate(value[1]):
        for j, row in enumerate(parts):
            total = sum([e for p, e in row if p in primes])
            if (total % 2 == 1) != (i == j):
                return ("sum", i, j)
    return None


def are_places(value, size):
    """Whether a value is an ascending tuple of at least one index below the size, unlike ones."""
    return is_ascending(value, 0, size - 1) and value != ()


def is_ascending(value, low, high):
    """Whether a value is an ascending tuple of unlike numbers from low to high."""
    if not isinstance(value, tuple):
        return False
    least = low
    for entry in value:
        if not is_between(entry, least, high):
            return False
        least = entry + 1
    return True


def is_square_product(rows, places):
    """Whether the product of the entries at the places is a square."""
    product = 1
    for place in places:
        product *= rows[place]
    root = isqrt(product)
    return root * root == product


def are_sets(value, size):
    """Whether a value is a tuple of so many ascending tuples of unlike primes up to 10 ** 5."""
    if not is_tuple(value, size):
        return False
    for primes in value:
        if not is_ascending(primes, 2, TRIED):
            return False
        for p in primes:
            if not is_tried(p):
                return False
    return True
