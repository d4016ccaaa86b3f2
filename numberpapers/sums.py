"""Adding, taking off and multiplying by hand."""

from numberpapers.digits import compare, need_one_base, without_noughts
from numberpapers.errors import TooSmall


def padded(digits, size):
    """The digits with noughts behind them, up to a size."""
    return digits + (0,) * (size - len(digits))


def carried(base, sums):
    """The row of the sum of all sums[k] * base ** k, each sum from 0 on."""
    digits = []
    carry = 0
    for total in sums:
        carry, digit = divmod(total + carry, base)
        digits.append(digit)
    while carry > 0:
        carry, digit = divmod(carry, base)
        digits.append(digit)
    return (base, without_noughts(digits))


def place_sums(one, other):
    """The sums of the digits of two rows of one base, place by place."""
    size = max(len(one[1]), len(other[1]))
    return [digit + beside for digit, beside in zip(padded(one[1], size), padded(other[1], size))]


def added(one, other):
    """The row of the sum."""
    base = need_one_base(one, other)
    return carried(base, place_sums(one, other))


def less(one, other):
    """The row of one less other."""
    base = need_one_base(one, other)
    if compare(one, other) < 0:
        raise TooSmall()
    digits = []
    borrowed = 0
    for digit, off in zip(one[1], padded(other[1], len(one[1]))):
        left = digit - off - borrowed
        borrowed = 1 if left < 0 else 0
        digits.append(left + borrowed * base)
    return (base, without_noughts(digits))


def carries(one, other):
    """The carries out of the places, when one and other are added."""
    base = need_one_base(one, other)
    found = []
    carry = 0
    for total in place_sums(one, other):
        carry = 1 if total + carry >= base else 0
        found.append(carry)
    return tuple(found)


def times_digit(row, d):
    """The row of the product with a digit."""
    base, digits = row
    return carried(base, [digit * d for digit in digits])


def column_sums(one, other):
    """The sums of the products of entries of two lists whose indexes add up to k, for all k."""
    if len(one) == 0 or len(other) == 0:
        return []
    sums = [0] * (len(one) + len(other) - 1)
    for i, digit in enumerate(one):
        for k, beside in enumerate(other, i):
            sums[k] += digit * beside
    return sums


def times(one, other):
    """The row of the product."""
    base = need_one_base(one, other)
    return carried(base, column_sums(one[1], other[1]))


def columns(one, other):
    """The column sums of the product by hand, and the carries out of the columns."""
    base = need_one_base(one, other)
    sums = column_sums(one[1], other[1])
    found = []
    carry = 0
    for total in sums:
        carry = (total + carry) // base
        found.append(carry)
    return (tuple(sums), tuple(found))
