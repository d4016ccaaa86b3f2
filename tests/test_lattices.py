import itertools
import math
import unittest
from fractions import Fraction

from numberpapers.lattices import echelon, is_line_paper, kernel, solved
from tests.helpers import ANY, changed, some

GREAT = 10 ** 12


def product(one, other):
    return sum(a * b for a, b in zip(one, other))


def is_echelon(rows, width):
    places = []
    for k, one in enumerate(rows):
        if type(one) is not tuple or len(one) != width or not any(one):
            return False
        places.append(next(i for i, x in enumerate(one) if x))
        if one[places[-1]] < 0:
            return False
        if any(not 0 <= earlier[places[-1]] < one[places[-1]] for earlier in rows[:k]):
            return False
    return places == sorted(set(places))


def in_lattice(rows, one):
    """Whether an echelon's lattice has a row."""
    left = list(one)
    for step_row in rows:
        place = next(i for i, x in enumerate(step_row) if x)
        if left[place] % step_row[place]:
            return False
        times = left[place] // step_row[place]
        left = [a - times * b for a, b in zip(left, step_row)]
    return not any(left)


def grids(count, seed):
    source = some(seed)
    for _ in range(count):
        height, width = source.randrange(1, 7), source.randrange(1, 7)
        most = source.choice((1, 2, 6, 1000, GREAT))
        grid = []
        for _ in range(height):
            if grid and source.random() < 0.2:
                grid.append(tuple(source.randrange(-2, 3) * x for x in grid[-1]) if most < 1000 else grid[-1])
            else:
                grid.append(tuple(source.choice((0, most, -most, source.randint(-most, most))) for _ in range(width)))
        yield source, most, tuple(grid)
    for size in range(1, 7):
        yield source, 1, ((0,) * size,) * 6
        yield source, 1, ((0,) * 6,) * size
        yield source, GREAT, ((GREAT,) * 6,) * size
        yield source, GREAT, tuple(tuple(GREAT * (-1) ** (i * j) - i * j for j in range(6)) for i in range(6))


def minors(grid, size):
    """The greatest common part of all determinants of so many rows and columns."""
    total = 0
    for some_rows in itertools.combinations(range(len(grid)), size):
        for places in itertools.combinations(range(len(grid[0])), size):
            total = math.gcd(total, determinant([[grid[i][j] for j in places] for i in some_rows]))
    return total


def determinant(rows):
    if not rows:
        return 1
    return sum((-1) ** j * x * determinant([r[:j] + r[j + 1:] for r in rows[1:]]) for j, x in enumerate(rows[0]) if x)


class Echelons(unittest.TestCase):  # [31]
    def test_echelons(self):
        for _, most, grid in grids(400, 131):
            found = echelon(grid)
            self.assertTrue(is_echelon(found, len(grid[0])), (grid, found))
            for one in grid:
                self.assertTrue(in_lattice(found, one))
            # The same lattice: the same common parts of all minors of the rank.
            if found and len(grid) <= 4:
                self.assertEqual(minors(grid, len(found)), minors(found, len(found)))

    def test_zeros_alone(self):
        self.assertEqual(echelon(((0,),)), ())
        self.assertEqual(echelon(((0,) * 6,) * 6), ())
        self.assertEqual(kernel(((0,),)), ((1,),))
        self.assertEqual(kernel(((0, 0),)), ((1, 0), (0, 1)))
        self.assertEqual(kernel(((3, 0), (0, 5))), ())

    def test_by_hand(self):
        self.assertEqual(echelon(((4, 6), (6, 4))), ((2, 8), (0, 10)))
        self.assertEqual(echelon(((-3, 1),)), ((3, -1),))
        self.assertEqual(echelon(((0, 2, 5), (0, 3, 1))), ((0, 1, 9), (0, 0, 13)))
        self.assertEqual(echelon(((6,), (10,), (-15,))), ((1,),))
        self.assertEqual(kernel(((2, 3),)), ((3, -2),))
        self.assertEqual(kernel(((1, 1, 1),)), ((1, 0, -1), (0, 1, -1)))

    def test_one_echelon_for_one_lattice(self):
        for source, most, grid in grids(200, 137):
            mixed = [list(one) for one in grid]
            for _ in range(8):
                i, j = source.randrange(len(mixed)), source.randrange(len(mixed))
                if i != j:
                    times = source.randrange(-3, 4)
                    mixed[i] = [a + times * b for a, b in zip(mixed[i], mixed[j])]
                    mixed[i], mixed[j] = mixed[j], [-a for a in mixed[i]]
            self.assertEqual(echelon(tuple(tuple(one) for one in mixed)), echelon(grid))

    def test_kernels(self):
        for _, most, grid in grids(400, 139):
            width = len(grid[0])
            found = kernel(grid)
            self.assertTrue(is_echelon(found, width))
            self.assertEqual(len(found), width - len(echelon(grid)))
            for one in found:
                for against in grid:
                    self.assertEqual(product(one, against), 0)
            # All integer rows of its span: no prime divides all minors.
            if found:
                self.assertEqual(minors(found, len(found)), 1)

    def test_kernels_have_all_rows(self):
        for _, most, grid in grids(150, 149):
            if most > 6 or len(grid[0]) > 3:
                continue
            found = kernel(grid)
            for one in itertools.product(range(-4, 5), repeat=len(grid[0])):
                is_null = all(product(one, against) == 0 for against in grid)
                self.assertIs(in_lattice(found, one), is_null)


def is_right(grid, sums, value):
    """Whether a value is one of the two answers, by the words of [32]."""
    if type(value) is not tuple or len(value) != 2 or type(value[0]) is not str or type(value[1]) is not tuple:
        return False
    if value[0] == "x":
        x = value[1]
        if len(x) != len(grid[0]) or any(type(entry) is not int for entry in x):
            return False
        return all(product(one, x) == wanted for one, wanted in zip(grid, sums))
    if value[0] != "y" or len(value[1]) != len(grid):
        return False
    y = []
    for pair in value[1]:
        if type(pair) is not tuple or len(pair) != 2 or any(type(entry) is not int for entry in pair):
            return False
        if pair[1] < 1 or math.gcd(*pair) != 1:
            return False
        y.append(Fraction(*pair))
    if any(sum(a * one[k] for a, one in zip(y, grid)).denominator != 1 for k in range(len(grid[0]))):
        return False
    return sum(a * b for a, b in zip(y, sums)).denominator != 1


def greatest(value):
    if isinstance(value, tuple):
        return max([0] + [greatest(entry) for entry in value])
    return abs(value) if isinstance(value, int) else 0


class Solved(unittest.TestCase):  # [32]
    def cases(self, count, seed):
        for source, most, grid in grids(count, seed):
            x = [source.randrange(-9, 10) for _ in grid[0]]
            sums = tuple(product(one, x) for one in grid)
            if max(map(abs, sums)) <= GREAT:
                yield grid, sums
                yield grid, tuple(s + (k == len(sums) - 1) for k, s in enumerate(sums))
            yield grid, tuple(source.randint(-most, most) for _ in grid)
            yield grid, tuple(source.choice((0, GREAT, -GREAT)) for _ in grid)

    def test_answers(self):
        words = {"x": 0, "y": 0}
        for grid, sums in self.cases(400, 151):
            found = solved(grid, sums)
            words[found[0]] += 1
            self.assertTrue(is_right(grid, sums, found), (grid, sums, found))
            self.assertIs(is_line_paper(grid, sums, found), True)
            self.assertLess(greatest(found), 10 ** 200)
        self.assertGreater(min(words.values()), 100)

    def test_by_hand(self):
        self.assertEqual(solved(((2, 4),), (6,))[0], "x")
        self.assertEqual(solved(((2, 4),), (7,)), ("y", ((1, 2),)))
        self.assertEqual(solved(((0, 0),), (0,))[0], "x")
        self.assertEqual(solved(((0, 0),), (5,))[0], "y")
        self.assertEqual(solved(((1, 1), (1, 1)), (1, 2))[0], "y")
        self.assertEqual(solved(((1, 1), (1, -1)), (1, 2))[0], "y")
        self.assertEqual(solved(((1, 1), (1, -1)), (2, 4)), ("x", (3, -1)))

    def test_one_sort_alone(self):
        for grid, sums in (
            (((2, 4),), (7,)), (((3,), (6,)), (3, 6)), (((3,), (6,)), (3, 5)), (((0,),), (0,)), (((1, 2), (3, 4)), (1, 1)),
        ):
            ratios = [(p, q) for q in range(1, 7) for p in range(-6, 7) if math.gcd(p, q) == 1]
            xs = [("x", x) for x in itertools.product(range(-6, 7), repeat=len(grid[0]))]
            ys = [("y", y) for y in itertools.product(ratios, repeat=len(grid))]
            words = {value[0] for value in xs + ys if is_line_paper(grid, sums, value)}
            self.assertEqual(words, {solved(grid, sums)[0]})

    def test_any_value(self):
        for grid, sums in ((((2, 4), (0, 3)), (6, 3)), (((2, 4), (0, 3)), (7, 3)), (((1, 1), (1, 1)), (1, 2))):
            right = solved(grid, sums)
            values = list(ANY) + list(changed(right)) + [("x", ()), ("y", ()), ("x", (10 ** 400, 1)), ("z", right[1])]
            for value in values + [("y", ((10 ** 300 + 1, 2), (1, 10 ** 399))), ("y", ((0, 2), (1, 2)))]:
                self.assertIs(is_line_paper(grid, sums, value), is_right(grid, sums, value), value)

    def test_integers_of_any_size_are_judged(self):
        far = 10 ** 399
        self.assertIs(is_line_paper(((2, -1),), (0,), ("x", (far, 2 * far))), True)
        self.assertIs(is_line_paper(((2, 4),), (7,), ("y", ((2 * far + 1, 2),))), True)
        self.assertIs(is_line_paper(((2, 4),), (7,), ("y", ((2 * far + 2, 2),))), False)
