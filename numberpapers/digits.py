"""Rows of digits and their numbers."""

from numberpapers.errors import NotFit, NotRow
from numberpapers.kinds import is_between, is_tuple

MOST_BASE = 10 ** 6
MOST_DIGITS = 4000


def need_row(value):
    """The value itself, if it is a row."""
    if not is_tuple(value, 2) or not is_between(value[0], 2, MOST_BASE):
        raise NotRow(-1)
    base, digits = value
    if not isinstance(digits, tuple) or len(digits) > MOST_DIGITS:
        raise NotRow(-1)
    for place, digit in enumerate(digits):
        if not is_between(digit, 0, base - 1):
            raise NotRow(place)
    if len(digits) > 0 and digits[-1] == 0:
        raise NotRow(len(digits))
    return value


def need_one_base(one, other):
    """The base of two rows."""
    if one[0] != other[0]:
        raise NotFit()
    return one[0]


def without_noughts(digits):
    """The tuple of the digits without the noughts at its end."""
    size = len(digits)
    while size > 0 and digits[size - 1] == 0:
        size -= 1
    return tuple(digits[:size])


def row_of(n, base):
    """The row of a number."""
    digits = []
    while n > 0:
        n, digit = divmod(n, base)
        digits.append(digit)
    return (base, tuple(digits))


def number_of(row):
    """The number of a row."""
    base, digits = row
    number = 0
    for digit in reversed(digits):
        number = number * base + digit
    return number


def compare(one, other):
    """-1, 0 or 1, by whether the number of one is less, the same or greater."""
    need_one_base(one, other)
    # Behind their lengths, rows are ordered as their digits are, the greatest place first.
    key = (len(one[1]), one[1][::-1])
    against = (len(other[1]), other[1][::-1])
    if key == against:
        return 0
    return -1 if key < against else 1


def shifted(row, k):
    """The row of the number times base ** k."""
    base, digits = row
    if digits == ():
        return row
    return (base, (0,) * k + digits)


def cut(row, k):
    """The row of the number divided by base ** k, without the rest."""
    base, digits = row
    return (base, digits[k:])


def ending(row, k):
    """The row of the rest of the number by base ** k."""
    base, digits = row
    return (base, without_noughts(digits[:k]))
