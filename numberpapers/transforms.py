"""Wheels, transforms there and back, products by them."""

from numberpapers.digits import need_one_base, number_of, row_of
from numberpapers.kinds import is_between, is_tuple
from numberpapers.powers import power, raised
from numberpapers.sums import carried, padded

MOST_MODULUS = 10 ** 40
MOST_SIZE = 13

# The three greatest primes below 10 ** 9 that leave 1 divided by 2 ** 13.
WHEEL_PRIMES = (999948289, 999923713, 999866369)


def is_wheel(value):
    """Whether a value is a wheel."""
    if not is_tuple(value, 3):
        return False
    modulus, s, w = value
    if not is_between(modulus, 3, MOST_MODULUS) or modulus % 2 == 0:
        return False
    if not is_between(s, 1, MOST_SIZE) or not is_between(w, 0, modulus - 1):
        return False
    return power(w, 1 << (s - 1), modulus) == modulus - 1


def wheels(s):
    """The wheels of three primes below 10 ** 9."""
    return tuple([(modulus, s, power(least_nonresidue(modulus), modulus >> s, modulus)) for modulus in WHEEL_PRIMES])


def least_nonresidue(modulus):
    """The least number from 2 on that is no square modulo an odd prime."""
    z = 2
    while power(z, modulus >> 1, modulus) != modulus - 1:
        z += 1
    return z


def shift_wheel(s, most):
    """A wheel modulo 2 ** K + 1, where 2 ** K is greater than most."""
    unit = 1 << (s - 1)
    k = unit * max(1, (most.bit_length() + unit - 1) // unit)
    return ((1 << k) + 1, s, 1 << (2 * k >> s))


def transform(entries, wheel):
    """The sums of the entries times the powers of w ** k, for each k."""
    modulus, _, w = wheel
    if is_power_of_two(w) and is_power_of_two(modulus - 1):
        return tuple(shift_spun(entries, w.bit_length() - 1, modulus))
    return tuple(spun(entries, w, modulus))


def is_power_of_two(n):
    """Whether a number from 1 on is a power of 2."""
    return n & (n - 1) == 0


def spun(entries, w, modulus):
    """The transform, as a list, put together from those of every second entry."""
    if len(entries) == 1:
        return list(entries)
    square = w * w % modulus
    low, high = [], []
    turn = 1
    for one, other in zip(spun(entries[::2], square, modulus), spun(entries[1::2], square, modulus)):
        part = other * turn % modulus
        low.append((one + part) % modulus)
        high.append((one - part) % modulus)
        turn = turn * w % modulus
    return low + high


def shift_spun(entries, step, modulus):
    """The transform, as a list, for w = 2 ** step and a modulus 2 ** K + 1: its products are shifts."""
    if len(entries) == 1:
        return list(entries)
    k = modulus.bit_length() - 1
    low, high = [], []
    by = 0
    for one, other in zip(shift_spun(entries[::2], 2 * step, modulus), shift_spun(entries[1::2], 2 * step, modulus)):
        part = other << by
        # 2 ** K is -1, so what lies above K places is taken off.
        part = (part & (modulus - 2)) - (part >> k)
        low.append((one + part) % modulus)
        high.append((one - part) % modulus)
        by += step
    return low + high


def back(entries, wheel):
    """The tuple whose transform the entries are."""
    modulus, s, _ = wheel
    twice = transform(entries, wheel)
    # The transform of a transform is the first tuple read backward, each entry 2 ** s times.
    part = power((modulus + 1) // 2, s, modulus)
    return tuple([entry * part % modulus for entry in twice[:1] + twice[:0:-1]])


def wheel_product(one, other, wheel):
    """The tuple of the sums of products of entries whose indexes add up to k, or to k and the number of entries."""
    left, right = transform(one, wheel), transform(other, wheel)
    return back(tuple([entry * beside % wheel[0] for entry, beside in zip(left, right)]), wheel)


def times_rests(one, other):
    """The row of the product, by three transforms put together by rests."""
    base = need_one_base(one, other)
    if one[1] == () or other[1] == ():
        return (base, ())
    # The product has this many columns but one, and all of them need places.
    size = len(one[1]) + len(other[1])
    s = max(1, (size - 2).bit_length())
    left, right = padded(one[1], 1 << s), padded(other[1], 1 << s)
    by_wheels = [wheel_product(left, right, wheel) for wheel in wheels(s)]
    return carried(base, [of_rests(rests) for rests in zip(*by_wheels)])


def of_rests(rests):
    """The least number from 0 on with these rests by the three primes."""
    number = 0
    product = 1
    for rest, prime in zip(rests, WHEEL_PRIMES):
        number += product * ((rest - number) * power(product, prime - 2, prime) % prime)
        product *= prime
    return number


def times_shifts(one, other):
    """The row of the product, by one transform modulo 2 ** K + 1."""
    base = need_one_base(one, other)
    size = len(one[1]) + len(other[1])
    # Several digits make one entry, so that there are about as many entries as an entry has figures.
    s = (size.bit_length() + 3) // 2
    group = size // ((1 << s) - 1) + 1
    great = raised(base, group)
    wheel = shift_wheel(s, (great * great) << s)
    sums = wheel_product(grouped(one, group, 1 << s), grouped(other, group, 1 << s), wheel)
    _, pieces = carried(great, sums)
    digits = []
    for piece in pieces:
        digits.extend(padded(row_of(piece, base)[1], group))
    return carried(base, digits)


def grouped(row, group, size):
    """The numbers of so many digits each, with noughts behind them up to a size."""
    base, digits = row
    starts = range(0, len(digits), group)
    return padded(tuple([number_of((base, digits[k:k + group])) for k in starts]), size)
