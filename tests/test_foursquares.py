import unittest

from numberpapers.foursquares import (
    four_of_rows, four_squares, is_four, is_quat_rows, minus_one, quat_rows, three_bar,
)
from tests.helpers import ANY, changed, some
from tests.judges import quaternion
from tests.primes import PRIMES, integer, is_prime, is_triple
from tests.test_quaternions import NOUGHT, plus, product
from tests.test_soft import next_prime
from tests.test_squareroots import GREAT_PRIMES


def right_four(n, value):
    if not is_triple(value, 4) or not all(map(integer, value)):
        return False
    return value[0] >= 0 and list(value) == sorted(value) and sum(x * x for x in value) == n


def norm(u):
    return sum(x * x for x in u) // 4


def right_rows(p, value):
    """Whether a value is quaternion rows of p, by the words of [76]."""
    if not is_triple(value, 3) or not integer(value[0]) or not integer(value[1]) or type(value[2]) is not tuple:
        return False
    x, y, rows = value
    if not 0 <= x < p or not 0 <= y < p or (x * x + y * y + 1) % p or not 1 <= len(rows) <= 4 * p.bit_length() + 4:
        return False
    if any(not is_triple(row, 4) or any(quaternion(u) is not None for u in row) for row in rows):
        return False
    if rows[0][:2] != ((2 * p, 0, 0, 0), (2 * x, 2 * y, 2, 0)) or norm(rows[-1][1]) != p:
        return False
    if any(u != plus(product(q, v), r) or 2 * norm(r) > norm(v) for u, v, q, r in rows):
        return False
    last = [k for k, row in enumerate(rows) if row[3] == NOUGHT]
    return last == [len(rows) - 1] and all(b[:2] == (a[1], a[3]) for a, b in zip(rows, rows[1:]))


class FourSquares(unittest.TestCase):  # [74]
    def check(self, n):
        value = four_squares(n)
        self.assertTrue(right_four(n, value), (n, value))
        self.assertIs(is_four(n, value), True)

    def test_small_numbers(self):
        for n in range(0, 3000):
            self.check(n)
        self.assertEqual([four_squares(n) for n in (0, 1, 7)], [(0, 0, 0, 0), (0, 0, 0, 1), (1, 1, 1, 2)])

    def test_numbers_that_are_no_three_squares(self):
        for k in range(0, 66):
            for m in (0, 1, 2, 5, 99, 10 ** 20):
                n = 4 ** k * (8 * m + 7)
                if n <= 10 ** 40:
                    self.check(n)
                self.assertEqual(three_bar(n), (k, m))
            for n in (4 ** k, 4 ** k * 2, 4 ** k * 6, 4 ** k * 14):
                self.check(min(n, 10 ** 40))

    def test_great_numbers(self):
        source = some(379)
        for n in [10 ** 40 - k for k in range(60)] + [source.randrange(10 ** source.randrange(3, 41)) for _ in range(150)]:
            self.check(n)
        for p in GREAT_PRIMES:
            self.check(p)

    def test_three_squares(self):
        three = {a * a + b * b + c * c for a in range(28) for b in range(28) for c in range(28)}
        for n in range(0, 700):
            self.assertEqual(three_bar(n) is None, n in three)
            if n not in three:
                k, m = three_bar(n)
                self.assertTrue(k >= 0 and m >= 0 and n == 4 ** k * (8 * m + 7))
        self.assertIsNone(three_bar(0))
        self.assertIsNone(three_bar(10 ** 300))
        self.assertEqual(three_bar(4 ** 490 * 15), (490, 1))
        self.assertEqual(three_bar(10 ** 300 - 1), (0, (10 ** 300 - 8) // 8))

    def test_any_value(self):
        for n in (0, 1, 7, 30, 10 ** 40, 10 ** 300):
            values = list(ANY) + [(1, 1, 1, 2), (2, 1, 1, 1), (-1, 1, 1, 2), (0, 0, 0, 10 ** 150), (0, 0, 0, -(10 ** 150)), (0, 1, 2, 5)]
            if n <= 10 ** 40:
                values += list(changed(four_squares(n)))
            for value in values:
                self.assertIs(is_four(n, value), right_four(n, value), (n, value))


class Rows(unittest.TestCase):  # [76]
    def check(self, p):
        x, y = minus_one(p)
        self.assertTrue(0 <= x < p and 0 <= y < p and (x * x + y * y + 1) % p == 0)
        value = quat_rows(p)
        self.assertTrue(right_rows(p, value), p)
        self.assertIs(is_quat_rows(p, value), True)
        self.assertTrue(right_four(p, four_of_rows(value)))
        return value

    def test_small_primes(self):
        for p in PRIMES[1:150]:
            self.check(p)
            self.assertIs(is_quat_rows(p + 2, quat_rows(p)), False)

    def test_great_primes(self):
        for p in GREAT_PRIMES + [next_prime(10 ** k) for k in range(3, 39, 7)]:
            self.check(p)

    def test_all_numbers_x_and_y(self):
        for p in (3, 5, 7, 9, 11, 15, 21, 45):
            for x in range(-1, p + 2):
                for y in range(-1, p + 2):
                    value = (x, y, self.rows(p, x, y))
                    self.assertIs(is_quat_rows(p, value), right_rows(p, value), (p, value))
                    if is_prime(p) and 0 <= x < p and 0 <= y < p and (x * x + y * y + 1) % p == 0:
                        self.assertIs(is_quat_rows(p, value), True)
                        self.assertTrue(right_four(p, four_of_rows(value)))

    def rows(self, p, x, y):
        """Rows by nearest quotients, whether or not they end as they should."""
        u, v, found = (2 * p, 0, 0, 0), (2 * x, 2 * y, 2, 0), []
        while v != NOUGHT:
            turned, size = (v[0], -v[1], -v[2], -v[3]), 4 * norm(v)
            entries = product(u, turned)
            nearest = []
            for odd in (0, 1):
                q = tuple(2 * ((2 * e + size // 2 - odd * size // 2) // size) + odd for e in entries)
                nearest.append((norm(tuple(a - b for a, b in zip(u, product(q, v)))), q))
            q = min(nearest)[1]
            r = tuple(a - b for a, b in zip(u, product(q, v)))
            found.append((u, v, q, r))
            u, v = v, r
        return tuple(found)

    def test_rows_that_are_wrong(self):
        p = 43
        x, y, rows = self.check(p)
        # The same quotients, but one division more or less, or other ends.
        last = rows[-1]
        for value in (
            (x, y, ()), (x, y, rows[:-1]), (x, y, rows[1:]), (x, y, rows + (last,)), (y, x, rows), (x, y, rows[::-1]), (x + p, y, rows), (x, y - p, rows),
            (x, y, rows[:-1] + ((last[0], last[1], last[2], last[1]),)), (x, y, rows + ((last[1], NOUGHT, NOUGHT, last[1]),)), (x, y, rows * 60),
            (x, y, rows + ((last[1], NOUGHT, NOUGHT, NOUGHT),)), (x, y, list(rows)), [x, y, rows], (x, y), (x, y, rows, rows),
        ):
            self.assertIs(is_quat_rows(p, value), False)
            self.assertIs(right_rows(p, value), False)

    def test_a_rest_of_more_than_half(self):
        # All quotients of one division by another number near by, judged by the words.
        p = 7
        x, y, rows = self.check(p)
        u, v = rows[0][:2]
        for a in range(-5, 6):
            for b in range(-5, 6):
                for c in (-2, 0, 1, 2):
                    q = (a, b, c, rows[0][2][3])
                    if quaternion(q) is None:
                        r = tuple(s - t for s, t in zip(u, product(q, v)))
                        value = (x, y, ((u, v, q, r),) + rows[1:])
                        self.assertIs(is_quat_rows(p, value), right_rows(p, value))

    def test_any_value(self):
        for p in (3, 7, 9, 11, 10 ** 40 - 17):
            values = list(ANY)
            if p < 100 and is_prime(p):
                values += list(changed(quat_rows(p)))
            for inner in ANY:
                values += [(1, 1, inner), (inner, 1, ()), (1, 1, (inner,)), (1, 1, (((2 * p, 0, 0, 0), (2, 2, 2, 0), inner, NOUGHT),))]
            for value in values:
                self.assertIs(is_quat_rows(p, value), right_rows(p, value), (p, value))
