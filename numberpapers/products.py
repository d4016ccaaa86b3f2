"""Products by three products of halves and by five products of thirds."""

from numberpapers.digits import need_one_base
from numberpapers.sums import carried, column_sums

# Up to this many digits the way by hand is the shorter one.
FEW = 32


def times_three(one, other):
    """The row of the product, by three products of halves."""
    base = need_one_base(one, other)
    return carried(base, halves_product(list(one[1]), list(other[1])))


def halves_product(one, other):
    """The column sums of two lists, by three products of halves."""
    if min(len(one), len(other)) <= FEW:
        return column_sums(one, other)
    half = (max(len(one), len(other)) + 1) // 2
    low = halves_product(one[:half], other[:half])
    high = halves_product(one[half:], other[half:])
    both = halves_product(sum_of_halves(one, half), sum_of_halves(other, half))
    # What both has above low and high are the products of a low and a high half.
    parts = ((0, low, 1), (half, both, 1), (half, low, -1), (half, high, -1), (2 * half, high, 1))
    return overlaid(4 * half, parts)[:len(one) + len(other) - 1]


def sum_of_halves(row, half):
    """The list of the sums of the entries of the low half and those of the high one, which may be shorter."""
    low, high = row[:half], row[half:]
    return [entry + beside for entry, beside in zip(low, high)] + low[len(high):]


def overlaid(size, parts):
    """The list of so many sums of parts; a part (start, entries, factor) begins at its start."""
    sums = [0] * size
    for start, entries, factor in parts:
        for k, entry in enumerate(entries, start):
            sums[k] += factor * entry
    return sums


def three_count(m, n):
    """How many products of digits the way by halves takes for rows of m and n digits."""
    if m == 0 or n == 0:
        return 0
    if m == 1 and n == 1:
        return 1
    h = (max(m, n) + 1) // 2
    m_low, n_low = min(m, h), min(n, h)
    return 2 * three_count(m_low, n_low) + three_count(m - m_low, n - n_low)


def times_five(one, other):
    """The row of the product, by five products of thirds."""
    base = need_one_base(one, other)
    return carried(base, thirds_product(list(one[1]), list(other[1])))


def thirds_product(one, other):
    """The column sums of two lists, by five products of thirds."""
    if min(len(one), len(other)) <= FEW:
        return column_sums(one, other)
    third = (max(len(one), len(other)) + 2) // 3
    products = []
    for value, beside in zip(values_of_thirds(one, third), values_of_thirds(other, third)):
        products.append(thirds_product(value, beside))
    parts = [(at * third, entries, 1) for at, entries in enumerate(five_parts(products))]
    # The thirds are all of one length, so noughts may stand behind the true columns.
    return overlaid(6 * third, parts)[:len(one) + len(other) - 1]


def values_of_thirds(row, third):
    """The values of a list at 0, 1, -1, 2 and beyond all bounds, its thirds taken as coefficients."""
    whole = row + [0] * (3 * third - len(row))
    low, middle, high = whole[:third], whole[third:2 * third], whole[2 * third:]
    plus = [a + b + c for a, b, c in zip(low, middle, high)]
    minus = [a - b + c for a, b, c in zip(low, middle, high)]
    two = [a + 2 * b + 4 * c for a, b, c in zip(low, middle, high)]
    return (low, plus, minus, two, high)


def five_parts(values):
    """The five coefficients that take these values at 0, 1, -1, 2 and beyond all bounds."""
    first, plus, minus, two, last = values
    odd = [(p - m) // 2 for p, m in zip(plus, minus)]
    middle = [(p + m) // 2 - f - z for p, m, f, z in zip(plus, minus, first, last)]
    skew = [(t - f - 4 * m - 16 * z) // 2 for t, f, m, z in zip(two, first, middle, last)]
    # odd is the second and the fourth one together, skew the second one and four times the fourth one.
    fourth = [(s - o) // 3 for s, o in zip(skew, odd)]
    second = [o - f for o, f in zip(odd, fourth)]
    return (first, second, middle, fourth, last)
