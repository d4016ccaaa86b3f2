"""Dividing by hand."""

from numberpapers.digits import compare, need_one_base, number_of, row_of, without_noughts
from numberpapers.errors import ByNought, TooShort
from numberpapers.kinds import same_nest
from numberpapers.powers import power
from numberpapers.sums import less, padded, times_digit


def divided_digit(row, d):
    """The row of the quotient by a digit, and the rest."""
    base, digits = row
    if d == 0:
        raise ByNought()
    quotient = []
    rest = 0
    for digit in reversed(digits):
        found, rest = divmod(rest * base + digit, d)
        quotient.append(found)
    return ((base, without_noughts(quotient[::-1])), rest)


def divided(row, divisor):
    """The rows of quotient and rest."""
    base = need_one_base(row, divisor)
    size = len(divisor[1])
    if size == 0:
        raise ByNought()
    if size == 1:
        quotient, rest = divided_digit(row, divisor[1][0])
        return (quotient, row_of(rest, base))
    _, d, steps = division_sheet(row, divisor)
    if steps == ():
        return ((base, ()), row)
    digits = [step[2] for step in steps]
    rest, _ = divided_digit(steps[-1][3], d)
    return ((base, without_noughts(digits[::-1])), rest)


def division_sheet(row, divisor):
    """The sheet of a division by a row of at least two digits."""
    base = need_one_base(row, divisor)
    size = len(divisor[1])
    if size < 2:
        raise TooShort()
    d = base // (divisor[1][-1] + 1)
    v = times_digit(divisor, d)
    last = len(row[1]) - size
    if last < 0:
        return ("sheet", d, ())
    u = times_digit(row, d)[1]
    step = division_step((base, without_noughts(u[last:])), v)
    steps = [step]
    for place in reversed(range(last)):
        step = division_step((base, without_noughts((u[place],) + step[3][1])), v)
        steps.append(step)
    return ("sheet", d, tuple(steps))


def division_step(part, v):
    """The step of a sheet that divides a part, less than base * v, by v."""
    trial, lowered = division_trial(part, v)
    digit = trial - lowered
    product = times_digit(v, digit)
    # What is left of the trial is the digit, or greater than it by 1.
    if compare(part, product) < 0:
        digit -= 1
        product = less(product, v)
    return (trial, lowered, digit, less(part, product))


def division_trial(part, v):
    """The digit that the first digits of a part and of v tell, and how far the next ones lower it."""
    base, digits = part
    n = len(v[1])
    w = padded(digits, n + 1)
    first, second = v[1][n - 1], v[1][n - 2]
    head = w[n] * base + w[n - 1]
    trial = min(base - 1, head // first)
    t = trial
    while t * second > base * (head - t * first) + w[n - 2]:
        t -= 1
    return (trial, trial - t)


def is_division_sheet(row, divisor, value):
    """Whether a value is the sheet of the division."""
    return same_nest(value, division_sheet(row, divisor))


def power_rest(row, k, modulus):
    """The row of the rest of the k-th power of the row by the modulus."""
    base = need_one_base(row, modulus)
    if modulus[1] == ():
        raise ByNought()
    return row_of(power(number_of(row), k, number_of(modulus)), base)
