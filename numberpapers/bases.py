"""Rows in other bases, in mixed and balanced ones, and fractions."""

from numberpapers.digits import number_of, row_of
from numberpapers.errors import NotRow, TooGreat
from numberpapers.kinds import is_between, is_tuple

MOST_BALANCED = 400


def rebased(row, base):
    """The row of the same number in another base."""
    return row_of(number_of(row), base)


def mixed(n, bases):
    """The digits of a number, each of its own base, least first."""
    digits = []
    left = n
    for base in bases:
        left, digit = divmod(left, base)
        digits.append(digit)
    if left > 0:
        raise TooGreat()
    return tuple(digits)


def of_mixed(bases, value):
    """The number of digits, each of its own base."""
    if not is_tuple(value, len(bases)):
        raise NotRow(-1)
    for place, digit in enumerate(value):
        if not is_between(digit, 0, bases[place] - 1):
            raise NotRow(place)
    number = 0
    for digit, base in zip(value[::-1], bases[::-1]):
        number = number * base + digit
    return number


def balanced(n, base):
    """The digits of an integer, from -h to h, least first."""
    h = (base - 1) // 2
    digits = []
    left = n
    while left != 0:
        digit = (left + h) % base - h
        left = (left - digit) // base
        digits.append(digit)
    return tuple(digits)


def of_balanced(base, value):
    """The integer of digits from -h to h."""
    if not isinstance(value, tuple) or len(value) > MOST_BALANCED:
        raise NotRow(-1)
    h = (base - 1) // 2
    for place, digit in enumerate(value):
        if not is_between(digit, -h, h):
            raise NotRow(place)
    if len(value) > 0 and value[-1] == 0:
        raise NotRow(len(value))
    number = 0
    for digit in reversed(value):
        number = number * base + digit
    return number


def fraction(a, c, base):
    """The row of a // c, the digits behind the point that come once, and those that come again and again."""
    digits = []
    places = {}
    rest = a % c
    # Digits come again as soon as a rest does, and not earlier.
    while rest > 0 and rest not in places:
        places[rest] = len(digits)
        digit, rest = divmod(rest * base, c)
        digits.append(digit)
    begin = len(digits) if rest == 0 else places[rest]
    return (row_of(a // c, base), tuple(digits[:begin]), tuple(digits[begin:]))
