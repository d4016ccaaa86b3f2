import math
import unittest

from numberpapers.trials import taken_out
from tests.helpers import some
from tests.primes import PRIMES, is_prime


def by_hand(n, most):
    rows = []
    for p in PRIMES:
        e = 0
        while p <= most and n % p == 0:
            n, e = n // p, e + 1
        if e:
            rows.append((p, e))
    return tuple(rows), n


class TakenOut(unittest.TestCase):  # [44]
    def test_small_numbers(self):
        for n in range(1, 300):
            for most in (2, 3, 4, 5, 6, 7, 11, 13, 29, 30, 31, 100, 10 ** 5):
                rows, left = taken_out(n, most)
                self.assertEqual((rows, left), by_hand(n, most))
                if left < (most + 1) ** 2:
                    self.assertTrue(left == 1 or is_prime(left))

    def test_edges(self):
        self.assertEqual(taken_out(1, 2), ((), 1))
        self.assertEqual(taken_out(1, 10 ** 5), ((), 1))
        self.assertEqual(taken_out(12, 2), (((2, 2),), 3))
        self.assertEqual(taken_out(2 ** 996, 2), (((2, 996),), 1))
        self.assertEqual(taken_out(99991 ** 2, 99990), ((), 99991 ** 2))
        self.assertEqual(taken_out(99991 ** 2, 99991), (((99991, 2),), 1))
        self.assertEqual(taken_out(99991 * 100003, 10 ** 5), (((99991, 1),), 100003))
        self.assertEqual(taken_out(100003, 10 ** 5), ((), 100003))
        self.assertEqual(taken_out(10 ** 300, 5), (((2, 300), (5, 300)), 1))
        self.assertEqual(taken_out(10 ** 300, 4), (((2, 300),), 5 ** 300))
        primes = PRIMES[-60:]
        n = math.prod(primes)
        self.assertLess(n, 10 ** 300)
        self.assertEqual(taken_out(n, 10 ** 5), (tuple((p, 1) for p in primes), 1))
        self.assertEqual(taken_out(n, primes[30]), (tuple((p, 1) for p in primes[:31]), math.prod(primes[31:])))

    def test_great_numbers(self):
        source = some(211)
        for n in [10 ** 300 - k for k in range(1, 6)] + [source.randrange(1, 10 ** 300) for _ in range(10)]:
            for most in (2, 100, 99991, 10 ** 5):
                self.assertEqual(taken_out(n, most), by_hand(n, most))
        for _ in range(200):
            n = math.prod(source.choice(PRIMES[:40] + PRIMES[-40:]) for _ in range(source.randrange(1, 20)))
            most = source.choice((2, 3, 50, 97, 99000, 99991, 10 ** 5, source.randrange(2, 10 ** 5)))
            self.assertEqual(taken_out(n, most), by_hand(n, most))
