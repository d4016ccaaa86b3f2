import unittest

from numberpapers.errors import NotNear, NotPrime, NotUnit
from numberpapers.heights import height
from numberpapers.nearunits import exponent_of, log_rest, split_unit
from tests.helpers import refused, some
from tests.test_heights import NO_PRIMES, SMALL


def greatest(p):
    k = 1
    while p ** (k + 1) <= 10 ** 30:
        k += 1
    return k


class Logs(unittest.TestCase):  # [108]
    def test_small_numbers(self):
        for p, most in ((3, 4), (5, 3), (7, 2), (11, 2)):
            for k in range(1, most + 1):
                full = p ** k
                for a in range(1 - 3 * p, p ** 2 + 2, p):
                    self.assertEqual(log_rest(p, k, a), (a ** full - 1) // full % full)
                    e = exponent_of(p, k, a)
                    self.assertEqual([x for x in range(p ** (k - 1)) if pow(1 + p, x, full) == a % full], [e])

    def test_units(self):
        for p, most in ((3, 4), (5, 3), (7, 3), (13, 2)):
            for k in range(1, most + 1):
                full = p ** k
                for a in range(-full, full, 1 if full < 130 else 7):
                    if a % p == 0:
                        refused(self, NotUnit, {}, split_unit, p, k, a)
                        refused(self, NotNear, {}, log_rest, p, k, a)
                        refused(self, NotNear, {}, exponent_of, p, k, a)
                        continue
                    w, e = split_unit(p, k, a)
                    pairs = [(x, y) for x in range(1, full) for y in range(full // p) if (x - a) % p == 0 and pow(x, p - 1, full) == 1 and (x * pow(1 + p, y, full) - a) % full == 0] if full < 50 else [(w, e)]
                    self.assertEqual(pairs, [(w, e)])
                    self.assertEqual((w - a) % p, 0)
                    self.assertEqual(pow(w, p - 1, full), 1 % full)
                    self.assertEqual((w * pow(1 + p, e, full) - a) % full, 0)
                    self.assertTrue(1 <= w < full and 0 <= e < full // p)

    def test_great_numbers(self):
        source = some(727)
        for p in (3, 5, 7, 31, 997):
            for k in (1, 2, greatest(p) // 2, greatest(p)):
                full = p ** k
                for _ in range(12):
                    a, b = (1 + p * source.randrange(-10 ** 60 // p + 1, 10 ** 60 // p) for _ in range(2))
                    self.assertEqual(log_rest(p, k, a), (pow(a, full, full * full) - 1) // full % full)
                    logs = (log_rest(p, k, a) + log_rest(p, k, b)) % full
                    self.assertEqual(log_rest(p, k, a * b % (p * full)), logs)
                    e = exponent_of(p, k, a)
                    self.assertTrue(0 <= e < full // p and pow(1 + p, e, full) == a % full)
                    c = source.randrange(-10 ** 60, 10 ** 60)
                    if c % p:
                        w, e = split_unit(p, k, c)
                        self.assertEqual((w * pow(1 + p, e, full) - c) % full, 0)
                        self.assertEqual((pow(w, p - 1, full), (w - c) % p), (1, 0))
                        self.assertTrue(1 <= w < full and 0 <= e < full // p)

    def test_heights(self):
        source = some(733)
        for p in (3, 5, 13, 499):
            most = greatest(p)
            for k in (1, 2, 5, most):
                for e in (1, 2, 3, k - 1, k, k + 1, most):
                    if 1 <= e and k <= most and p ** e < 10 ** 58:
                        u = source.randrange(1, 99) * p + 1
                        found = log_rest(p, k, 1 + p ** e * u)
                        self.assertTrue(0 <= found < p ** k)
                        self.assertTrue(found == 0 if e >= k else height(p, found) == e)

    def test_edges(self):
        for p in (3, 997):
            k = greatest(p)
            self.assertEqual((log_rest(p, k, 1), log_rest(p, 1, 1 + p), exponent_of(p, 1, 1), exponent_of(p, k, 1 + p), exponent_of(p, k, 1)), (0, 0, 0, 1, 0))
            self.assertEqual(exponent_of(p, k, 1 + p ** k), 0)
            self.assertEqual((split_unit(p, k, 1), split_unit(p, 1, p - 1), split_unit(p, k, -1)), ((1, 0), (p - 1, 0), (p ** k - 1, 0)))
            self.assertEqual(split_unit(p, k, 1 + p), (1, 1))
            for a in (0, 2, -1, p, p + 2, 10 ** 60 // p * p, -(10 ** 60) // p * p - 1):
                refused(self, NotNear, {}, log_rest, p, k, a)
                refused(self, NotNear, {}, exponent_of, p, k, a)
            for a in (0, p, -p, p ** 5):
                refused(self, NotUnit, {}, split_unit, p, k, a)

    def test_no_primes(self):
        for p in NO_PRIMES + (2,):
            for a in (0, 1, 2, p + 1, p):
                for function in (log_rest, exponent_of, split_unit):
                    refused(self, NotPrime, {}, function, p, 1, a)
        self.assertEqual(len(SMALL), 168)
