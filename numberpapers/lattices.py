"""Lattices of rows of integers, and whole solutions of equations with papers."""

from numberpapers.common import common_part, lowest
from numberpapers.kinds import are_numbers, is_told, is_tuple


def echelon(grid):
    """The echelon of the lattice of all sums of multiples of the grid's rows."""
    found = []
    rows = [list(row) for row in grid]
    for place in range(len(rows[0])):
        step_row, rows = step_and_others(rows, place)
        if step_row is not None:
            found = [without(row, step_row, place) for row in found] + [step_row]
    return tuple([tuple(row) for row in found])


def step_and_others(rows, place):
    """A row and others of the same lattice that have 0 at the place; None and the rows if all have."""
    step_row = None
    others = []
    for row in rows:
        if row[place] == 0:
            others.append(row)
        elif step_row is None:
            step_row = row
        else:
            step_row, other = divided_out(step_row, row, place)
            others.append(other)
    if step_row is not None and step_row[place] < 0:
        step_row = [-entry for entry in step_row]
    return (step_row, others)


def divided_out(one, other, place):
    """Two rows of the same lattice as one and other, of which the second one has 0 at the place."""
    while other[place] != 0:
        one, other = other, without(one, other, place)
    return (one, other)


def without(row, step_row, place):
    """The row less that multiple of the step row which leaves the rest by the step at the place."""
    count = row[place] // step_row[place]
    return [entry - count * step for entry, step in zip(row, step_row)]


def paired_echelon(grid):
    """The echelon of all rows that have grid times x first and then x, for rows x of integers."""
    size = len(grid[0])
    rows = []
    for place in range(size):
        unit = [0] * size
        unit[place] = 1
        rows.append([row[place] for row in grid] + unit)
    return echelon(rows)


def step_place(row):
    """The index of the first entry other than 0, or the number of entries."""
    for place, entry in enumerate(row):
        if entry != 0:
            return place
    return len(row)


def kernel(grid):
    """The echelon of the lattice of all rows whose product with each row of the grid is 0."""
    size = len(grid)
    return tuple([row[size:] for row in paired_echelon(grid) if step_place(row) >= size])


def solved(grid, sums):
    """("x", x) with the products that sums tells, or ("y", y), which shows that there is no such x."""
    rows = paired_echelon(grid)
    left = list(sums) + [0] * len(grid[0])
    # The last rows, those of the kernel, keep the entries of x small.
    for row in rows:
        left = without(left, row, step_place(row))
    size = len(grid)
    if step_place(left) < size:
        return ("y", ratios_against(rows, left, size))
    return ("x", tuple([-entry for entry in left[size:]]))


def ratios_against(rows, left, size):
    """Ratios whose sum with each row is whole, but not that with what is left of the sums."""
    last = step_place(left)
    earlier = [row for row in rows if step_place(row) < last]
    # A half, where no row has its step at the last place.
    bottom = 2 * abs(left[last])
    for row in rows:
        if step_place(row) == last:
            bottom = row[last]
    product = 1
    for row in earlier:
        product *= row[step_place(row)]
    tops = [0] * size
    tops[last] = product
    # Each top is a multiple of the steps that are still to come, so every division goes out.
    for row in reversed(earlier):
        place = step_place(row)
        tops[place] = -product_of_rows(tops, row) // row[place]
    bottom *= product
    return tuple([lowest(top % bottom, bottom) for top in tops])


def product_of_rows(one, other):
    """The sum of the products of entries."""
    return sum([entry * beside for entry, beside in zip(one, other)])


def is_line_paper(grid, sums, value):
    """Whether a value is one of the two answers of solved."""
    if is_told(value, "x", 2) and are_numbers(value[1], len(grid[0])):
        for row, wanted in zip(grid, sums):
            if product_of_rows(row, value[1]) != wanted:
                return False
        return True
    if not is_told(value, "y", 2) or not are_ratios(value[1], len(grid)):
        return False
    for column in zip(*grid):
        if not is_whole_sum(value[1], column):
            return False
    return not is_whole_sum(value[1], sums)


def are_ratios(value, size):
    """Whether a value is a tuple of so many ratios in lowest terms."""
    if not is_tuple(value, size):
        return False
    for ratio in value:
        if not are_numbers(ratio, 2) or ratio[1] < 1 or common_part(ratio[0], ratio[1]) > 1:
            return False
    return True


def is_whole_sum(ratios, entries):
    """Whether the sum of the products of ratios and entries is an integer."""
    product = 1
    for _, bottom in ratios:
        product *= bottom
    total = sum([top * entry * (product // bottom) for (top, bottom), entry in zip(ratios, entries)])
    return total % product == 0
