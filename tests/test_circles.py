import math
import unittest

from numberpapers.circles import circle_row, circle_value, prime_above
from tests.primes import PRIMES, is_prime


def times(f, g):
    found = [0] * (len(f) + len(g) - 1)
    for i, a in enumerate(f):
        for j, b in enumerate(g):
            found[i + j] += a * b
    return found


class Circles(unittest.TestCase):  # [98]
    def test_the_products_of_all_divisors(self):
        for n in list(range(1, 130)) + [144, 165, 180, 195, 210, 240, 256, 289, 299, 300]:
            row = circle_row(n)
            self.assertEqual(row[-1], 1)
            self.assertEqual(len(row) - 1, sum(math.gcd(k, n) == 1 for k in range(n)))
            total = [1]
            for d in range(1, n + 1):
                if n % d == 0:
                    total = times(total, circle_row(d))
            self.assertEqual(total, [-1] + [0] * (n - 1) + [1])

    def test_by_hand(self):
        for n, row in (
            (1, (-1, 1)), (2, (1, 1)), (3, (1, 1, 1)), (4, (1, 0, 1)), (6, (1, -1, 1)), (12, (1, 0, -1, 0, 1)), (9, (1, 0, 0, 1, 0, 0, 1)), (5, (1,) * 5), (256, (1,) + (0,) * 127 + (1,)),
        ):
            self.assertEqual(circle_row(n), row)
        self.assertEqual(circle_row(105)[7], -2)
        self.assertEqual(len(circle_row(293)), 293)

    def test_values(self):
        for n in list(range(1, 60)) + [105, 256, 299, 300]:
            row = circle_row(n)
            for x in (0, 1, -1, 2, -2, 7, 1000, -1000, 999):
                self.assertEqual(circle_value(n, x), sum(c * x ** k for k, c in enumerate(row)))
        self.assertEqual((circle_value(1, 0), circle_value(1, 1), circle_value(2, -1), circle_value(7, 0), circle_value(7, 1), circle_value(6, 1)), (-1, 0, 0, 1, 7, 1))

    def test_primes_of_values(self):
        for n in range(1, 40):
            for x in (2, 3, -2, 10):
                value = abs(circle_value(n, x))
                for p in PRIMES[:200]:
                    order = next((k for k in range(1, p) if pow(x, k, p) == 1), None)
                    if n % p:
                        self.assertIs(value % p == 0, order == n)
                        if value % p == 0:
                            self.assertEqual((p - 1) % n, 0)

    def test_primes_above(self):
        for n in list(range(1, 60)) + [997, 998, 999, 1000]:
            for bound in (0, 1, 2, 3, 6, 7, n - 1, n, n + 1, 1000):
                found = prime_above(n, bound)
                self.assertEqual(found, next(p for p in range(bound + 1, 10 ** 6) if p % n == 1 % n and is_prime(p)), (n, bound))
            found = prime_above(n, 10 ** 6)
            self.assertEqual(found, next(p for p in range(10 ** 6 + 1, 10 ** 7) if p % n == 1 % n and is_prime(p)))
        self.assertEqual((prime_above(1, 0), prime_above(1, 2), prime_above(2, 0), prime_above(2, 2), prime_above(1, 10 ** 6), prime_above(4, 4), prime_above(4, 5)), (2, 3, 3, 3, 1000003, 5, 13))
