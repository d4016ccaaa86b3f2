import math
import unittest

from numberpapers.signs import (
    euler, floor_sum, gauss_count, is_sign_sheet, sign, sign_sheet, sign_sum, square_neighbours,
)
from tests.helpers import ANY, changed, some
from tests.judges import factors, sheet_tells
from tests.primes import PRIMES, is_prime
from tests.test_soft import next_prime

ODD = PRIMES[1:]


def by_squares(a, p):
    """Whether a is a square modulo an odd prime, as 0, 1 or -1."""
    return 0 if a % p == 0 else 1 if any((x * x - a) % p == 0 for x in range(p)) else -1


def by_parts(a, n):
    """The sign by the primes of n."""
    return math.prod(by_squares(a, p) ** e for p, e in factors(n))


class Euler(unittest.TestCase):  # [62]
    def test_small_primes(self):
        for p in ODD[:40]:
            for a in range(-p - 3, 2 * p + 3):
                self.assertEqual(euler(a, p), by_squares(a, p))

    def test_great_primes(self):
        source = some(313)
        for p in (10 ** 40 - 17, next_prime(10 ** 39), next_prime(10 ** 20)):
            for _ in range(20):
                x, a = source.randrange(1, p), source.randrange(-10 ** 41, 10 ** 41)
                self.assertEqual(euler(x * x, p), 1)
                self.assertEqual(euler(a, p), 0 if a % p == 0 else {1: 1, p - 1: -1}[pow(a, p // 2, p)])
            self.assertEqual([euler(k * p, p) for k in (-1, 0, 3)], [0, 0, 0])

    def test_counts_and_sums(self):
        for p in ODD[:30]:
            half = (p - 1) // 2
            for a in range(-p - 2, 2 * p + 2):
                if a % p:
                    self.assertEqual(gauss_count(a, p), sum(j * a % p > half for j in range(1, half + 1)))
                    self.assertEqual(floor_sum(a, p), sum(j * (a % p) // p for j in range(1, half + 1)))
                    self.even(a, p)

    def even(self, a, p):
        """The counts are even just where a is a square."""
        self.assertIs(gauss_count(a, p) % 2 == 0, euler(a, p) == 1)
        if a % p % 2:
            self.assertIs(floor_sum(a, p) % 2 == 0, euler(a, p) == 1)

    def test_counts_near_10_to_the_5(self):
        for p in (99991, 99989, 65537):
            for a in (1, -1, 2, -2, p - 1, 3, 10 ** 41 + 1, -(10 ** 41)):
                self.even(a, p)
        self.assertEqual((gauss_count(1, 99991), floor_sum(1, 99991)), (0, 0))
        self.assertEqual(gauss_count(-1, 99991), 49995)
        self.assertEqual((gauss_count(2, 3), floor_sum(2, 3), gauss_count(1, 3)), (1, 0, 0))


class Signs(unittest.TestCase):  # [63]
    def test_small_numbers(self):
        for n in range(1, 220, 2):
            for a in range(-30, 240):
                self.assertEqual(sign(a, n), by_parts(a, n), (a, n))
        self.assertEqual([sign(a, 1) for a in (0, 1, -5, 10 ** 80)], [1, 1, 1, 1])
        self.assertEqual(sign(2, 15), 1)

    def test_a_square_has_the_sign_1(self):
        for n in range(1, 120, 2):
            for x in range(n):
                self.assertEqual(sign(x * x, n), 1 if math.gcd(x, n) == 1 else 0)

    def test_drawn_numbers(self):
        source = some(317)
        for digits in (2, 5, 20, 40):
            for _ in range(60):
                n, m = source.randrange(10 ** (digits // 2)) | 1, source.randrange(10 ** (digits // 2)) | 1
                a, b = source.randrange(-10 ** 40, 10 ** 40), source.randrange(-10 ** 40, 10 ** 40)
                self.assertEqual(sign(a * b, n), sign(a, n) * sign(b, n))
                self.assertEqual(sign(a, n * m), sign(a, n) * sign(a, m))
                self.assertIs(sign(a, n) == 0, math.gcd(a, n) > 1)
                if math.gcd(n, m) == 1:
                    self.assertEqual(sign(n, m) * sign(m, n), -1 if n % 4 == m % 4 == 3 else 1)
                self.assertEqual(sign(-1, n), -1 if n % 4 == 3 else 1)
                self.assertEqual(sign(2, n), -1 if n % 8 in (3, 5) else 1)
        for p in (10 ** 40 - 17, 99991, 3):
            for _ in range(20):
                a = source.randrange(-10 ** 80, 10 ** 80)
                self.assertEqual(sign(a, p), euler(a, p))


class Sheets(unittest.TestCase):  # [64]
    def check(self, a, n):
        sheet = sign_sheet(a, n)
        self.assertLessEqual(len(sheet), 4 * n.bit_length() + 4)
        self.assertEqual(sheet_tells(a, n, sheet), sign(a, n))
        self.assertIs(is_sign_sheet(a, n, sheet), True)

    def test_small_numbers(self):
        for n in range(1, 150, 2):
            for a in range(-40, 200):
                self.check(a, n)
        self.assertEqual(sign_sheet(0, 1), ((0, 1, 1),))
        self.assertEqual(sign_sheet(1, 1), ((1, 1, 1), (0, 1, 1)))
        self.assertEqual(sign_sheet(1, 3), ((1, 3, 1),))
        self.assertEqual(sign_sheet(0, 9), ((0, 9, 1),))

    def test_great_numbers(self):
        source = some(331)
        for _ in range(300):
            n = source.randrange(10 ** source.randrange(1, 41)) | 1
            self.check(source.randrange(-10 ** 80, 10 ** 80), n)
        one, other = 1, 1
        # Neighbours whose divisions take the most steps.
        while other < 10 ** 40:
            for a, n in ((one, other), (other, one), (-one, other), (2 * one, other)):
                if n % 2:
                    self.check(a, n)
            one, other = other, one + other
        for n in (10 ** 40 - 1, 2 ** 132 - 1, 2 ** 132 + 1, 3 ** 83):
            for a in (-10 ** 80, 10 ** 80, 2 ** 265, 2 ** 131, n - 1, n - 2, n + 1, 2 * n - 1, n // 2, (n - 1) // 3 * 2):
                self.check(a, n)

    def test_other_sheets(self):
        for a, n, value, right in (
            (6, 5, ((6, 5, 1), (1, 5, 1)), True), (6, 5, ((6, 5, 1), (3, 5, -1), (5, 3, -1), (2, 3, -1), (1, 3, 1)), True),
            (6, 5, ((6, 5, 1), (3, 5, -1)), False), (6, 5, ((1, 5, 1),), False), (6, 5, ((6, 5, -1), (1, 5, -1)), False),
            (6, 5, ((6, 5, 1), (3, 5, 1), (5, 3, 1), (2, 3, 1), (1, 3, -1)), False), (6, 5, (), False), (6, 5, ((6, 5, 1),), False),
            (1, 1, ((1, 1, 1),), False), (0, 1, ((0, 1, 1),), True), (4, 1, ((4, 1, 1), (2, 1, 1), (1, 1, 1), (0, 1, 1)), True),
            (4, 1, ((4, 1, 1), (2, 1, 1), (1, 1, 1)), False), (0, 3, ((0, 3, 1),), True), (0, 3, ((0, 3, 1), (0, 3, 1)), False),
            (3, 7, ((3, 7, 1), (7, 3, -1), (1, 3, -1)), True), (3, 7, ((3, 7, 1), (7, 3, 1), (1, 3, 1)), False),
            (7, 3, ((7, 3, 1), (3, 7, -1)), False), (-1, 7, ((-1, 7, 1), (6, 7, 1), (3, 7, 1), (7, 3, -1), (1, 3, -1)), True),
            (-2, 7, ((-2, 7, 1), (-1, 7, 1)), False), (3, 9, ((3, 9, 1), (9, 3, 1), (0, 3, 1)), True), (1, 5, ((1, 5, 1), (5, 1, 1), (0, 1, 1)), False),
            (10, 3, ((10, 3, 1), (5, 3, -1), (2, 3, -1), (1, 3, 1)), True), (2, 3, ((2, 3, 1), (1, 3, True)), False),
            (2, 5, ((2, 5, 1), (5, 2, 1), (1, 2, 1)), False), (3, 3, ((3, 3, 1), (3, 3, -1), (0, 3, -1)), False), (5, 5, ((5, 5, 1), (0, 5, 1)), True),
            (5, 5, ((5, 5, 1), (5, 5, 1), (0, 5, 1)), False), (-3, 5, ((-3, 5, 1), (5, -3, 1)), False), (9, 3, ((9, 3, 1), (3, 9, 1), (9, 3, 1), (0, 3, 1)), False),
             (2, 3, ((2, 3, True), (1, 3, -1)), False),
        ):
            self.assertIs(is_sign_sheet(a, n, value), right, value)
            self.assertIs(sheet_tells(a, n, value) is not None, right)

    def test_sheets_of_any_length(self):
        a = 2 ** 260 * 3
        sheet = tuple((a >> k, 5, (-1) ** k) for k in range(261))
        sheet += ((5, 3, 1), (2, 3, 1), (1, 3, -1))
        self.assertIs(is_sign_sheet(a, 5, sheet), True)
        self.assertEqual((sheet_tells(a, 5, sheet), sign(a, 5)), (-1, -1))
        self.assertIs(is_sign_sheet(a, 5, sheet[:260]), False)

    def test_any_value(self):
        for a, n in ((6, 5), (0, 1), (1, 1), (-7, 15), (10, 21), (0, 9)):
            sheet = sign_sheet(a, n)
            for value in list(ANY) + list(changed(sheet)):
                self.assertIs(is_sign_sheet(a, n, value), sheet_tells(a, n, value) is not None, (a, n, value))
            for value in ANY:
                for other in (sheet + (value,), sheet[:-1] + (value,), (value,) + sheet[1:], (sheet[0], (value, 5, 1))):
                    self.assertIs(is_sign_sheet(a, n, other), sheet_tells(a, n, other) is not None, (a, n, other))


class Sums(unittest.TestCase):  # [69]
    def test_sums(self):
        for p in ODD[:9]:
            signs = [by_squares(x, p) for x in range(p)]
            for b in range(-3, p + 2):
                for c in range(-3, p + 2):
                    self.assertEqual(sign_sum(b, c, p), sum(signs[(x * x + b * x + c) % p] for x in range(p)))
        for p in (9973, 9967):
            for b, c in ((2, 1), (-2, 1), (0, 0), (10 ** 41, 3), (-(10 ** 41), 10 ** 41), (2 * p, p), (1, 1)):
                self.assertEqual(sign_sum(b, c, p), p - 1 if (b * b - 4 * c) % p == 0 else -1)
        p = 1009
        self.assertEqual(sign_sum(-5, 77, p), sum(euler(x * x - 5 * x + 77, p) for x in range(p)))

    def test_neighbours(self):
        for p in ODD[:60] + [9973, 9967]:
            squares = {x * x % p for x in range(1, p)}
            self.assertEqual(square_neighbours(p), sum(x in squares and x + 1 in squares for x in range(1, p - 1)))
        self.assertEqual([square_neighbours(p) for p in (3, 5, 7, 17)], [0, 0, 1, 3])
        self.assertTrue(is_prime(9967))
