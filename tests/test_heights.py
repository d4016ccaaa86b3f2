import math
import unittest

from numberpapers.errors import NoHeight, NotPrime, NotUnit
from numberpapers.heights import (
    carries_at, choose_height, choose_rest, difference_height, factorial_figure, factorial_height, height,
)
from tests.helpers import refused, some

SMALL = [p for p in range(2, 1001) if all(p % d for d in range(2, p))]
NO_PRIMES = (0, 1, -1, -2, -3, 4, 6, 9, 25, 49, 961, 989, 999, 1000, 1001, 1009, 1013, 10 ** 6 + 3, 10 ** 400, -(10 ** 400), 10 ** 9 + 7)


def high(p, n):
    e = 0
    while n % p ** (e + 1) == 0:
        e += 1
    return e


class Heights(unittest.TestCase):  # [100], [101]
    def test_heights(self):
        source = some(643)
        for p in SMALL:
            for n in (1, -1, p, -p, p ** 3, 7 * p ** 2, source.randrange(1, 10 ** 300), -source.randrange(1, 10 ** 9) * p ** 5):
                self.assertEqual(height(p, n), high(p, n))
            refused(self, NoHeight, {}, height, p, 0)
        self.assertEqual((height(2, 2 ** 996), height(2, -(2 ** 996)), height(10 ** 3 - 3, 997 ** 100), height(5, 10 ** 300), height(3, -(10 ** 300))), (996, 996, 100, 300, 0))

    def test_no_primes(self):
        for p in NO_PRIMES:
            for n in (0, 1, 12, -(10 ** 300)):
                refused(self, NotPrime, {}, height, p, n)
            for function in (factorial_height, factorial_figure):
                refused(self, NotPrime, {}, function, p, 5)
                refused(self, NotPrime, {}, function, p, 0)
            refused(self, NotPrime, {}, choose_height, p, 5, 2)
            refused(self, NotPrime, {}, carries_at, p, 5, 2)
            refused(self, NotPrime, {}, choose_rest, p, 5, 2)
            refused(self, NotPrime, {}, choose_rest, p, 2, 5)
            refused(self, NotPrime, {}, difference_height, p, 5, 5, 2)
            refused(self, NotPrime, {}, difference_height, p, 0, p, 2)

    def test_factorials(self):
        for p in SMALL[:12] + [997]:
            product = 1
            for n in range(0, 130):
                product *= max(n, 1)
                e = high(p, product)
                self.assertEqual(factorial_height(p, n), e)
                self.assertEqual(factorial_figure(p, n), product // p ** e % p)
        product = math.factorial(2500)
        for p in (2, 3, 5, 7, 31, 37, 499, 997):
            e = high(p, product)
            self.assertEqual((factorial_height(p, 2500), factorial_figure(p, 2500)), (e, product // p ** e % p))
        self.assertEqual((factorial_height(2, 0), factorial_figure(2, 0), factorial_figure(3, 0)), (0, 1, 1))

    def test_great_factorials(self):
        source = some(647)
        for p in SMALL[::9] + [2, 997]:
            for n in (10 ** 30, source.randrange(10 ** 30)):
                total, q = 0, p
                while q <= n:
                    total, q = total + n // q, q * p
                self.assertEqual(factorial_height(p, n), total)
                # n! by that of a number less by 1, and by the choices.
                self.assertEqual(factorial_figure(p, n), factorial_figure(p, n - 1) * (n // p ** high(p, n)) % p)
                m = source.randrange(n)
                self.assertEqual(choose_height(p, n, m), total - factorial_height(p, m) - factorial_height(p, n - m))

    def test_choices(self):
        for p in SMALL[:8] + [31, 997]:
            for n in range(0, 60):
                for m in range(0, n + 1):
                    count = math.comb(n, m)
                    self.assertEqual(choose_height(p, n, m), high(p, count))
                    self.assertEqual(carries_at(p, m, n - m), high(p, count))
                    self.assertEqual(choose_rest(p, n, m), count % p)
                for m in (n + 1, n + 2, n + p, 10 ** 30):
                    self.assertEqual(choose_rest(p, n, m), 0)
        for p in (2, 3, 97, 101, 997):
            for n, m in ((5000, 1777), (4999, 2500), (9409, 97)):
                self.assertEqual((choose_rest(p, n, m), choose_height(p, n, m)), (math.comb(n, m) % p, high(p, math.comb(n, m))))

    def test_sentences(self):
        source = some(653)
        for p in SMALL[::12] + [2, 3, 997]:
            for _ in range(5):
                n = source.randrange(10 ** 30)
                m = source.randrange(n + 1)
                a, b, carry, count, rest, figures = m, n - m, 0, 0, 1, 0
                while a or b:
                    carry = int(a % p + b % p + carry >= p)
                    count += carry
                    a, b = a // p, b // p
                a, b = n, m
                while a or b:
                    rest = rest * math.comb(a % p, b % p) % p
                    figures, a, b = figures + a % p, a // p, b // p
                self.assertEqual((choose_height(p, n, m), carries_at(p, m, n - m), choose_rest(p, n, m)), (count, count, rest))
                self.assertEqual(factorial_height(p, n) * (p - 1), n - figures)
                self.assertEqual(choose_rest(p, n, m) == 0, count > 0)
        self.assertEqual((carries_at(2, 0, 0), carries_at(2, 10 ** 30, 10 ** 30), carries_at(2, 1, 2 ** 99 - 1)), (0, bin(10 ** 30).count("1"), 99))


class Differences(unittest.TestCase):  # [102]
    def test_small_numbers(self):
        for p in (2, 3, 5, 7, 13):
            for a in range(-12, 13):
                for b in range(-12, 13):
                    for n in (1, 2, 3, 4, 5, 6, 8, 9, 12, 24, 27):
                        if a % p == 0 or b % p == 0:
                            refused(self, NotUnit, {}, difference_height, p, a, b, n)
                        elif a ** n == b ** n:
                            refused(self, NoHeight, {}, difference_height, p, a, b, n)
                        else:
                            self.assertEqual(difference_height(p, a, b, n), high(p, a ** n - b ** n), (p, a, b, n))

    def test_great_numbers(self):
        source = some(659)
        for p in SMALL[::15] + [2, 3, 997]:
            for _ in range(12):
                a, b = source.randrange(-10 ** 30, 10 ** 30), source.randrange(-10 ** 30, 10 ** 30)
                if source.random() < .5:
                    b = a + p ** source.randrange(1, 1 + int(99 / p.bit_length())) * source.randrange(-5, 5)
                n = source.choice((source.randrange(1, 10 ** 12), 10 ** 12, p ** 3 * 4, (p - 1) * p, 2, 1))
                if a % p == 0 or b % p == 0 or a == b or a == -b and n % 2 == 0 or abs(b) > 10 ** 30:
                    continue
                e = difference_height(p, a, b, n)
                full = p ** (e + 1)
                self.assertEqual((pow(a, n, full) - pow(b, n, full)) % p ** e, 0)
                self.assertNotEqual((pow(a, n, full) - pow(b, n, full)) % full, 0)
                if (a - b) % p == 0:
                    wanted = high(p, a - b) + high(p, n) if p > 2 or n % 2 else high(2, a * a - b * b) + high(2, n) - 1
                    self.assertEqual(e, wanted)

    def test_edges(self):
        self.assertEqual(difference_height(2, 3, 1, 2 ** 39), 41)
        self.assertEqual(difference_height(2, 1, -1, 1), 1)
        self.assertEqual(difference_height(2, 1, -1, 3), 1)
        refused(self, NoHeight, {}, difference_height, 2, 1, -1, 2)
        refused(self, NoHeight, {}, difference_height, 3, 10 ** 30, -(10 ** 30), 10 ** 12)
        self.assertEqual(difference_height(3, 10 ** 30, -(10 ** 30), 10 ** 12 - 1), 0)
        refused(self, NotUnit, {}, difference_height, 3, 6, 6, 1)
        refused(self, NotUnit, {}, difference_height, 3, 0, 1, 1)
        refused(self, NotUnit, {}, difference_height, 5, 1, 10 ** 30, 1)
        self.assertEqual(difference_height(997, 2, 1, 996), high(997, 2 ** 996 - 1))
