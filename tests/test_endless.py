import math
import unittest

from numberpapers.endless import endless_fraction, endless_row
from numberpapers.errors import NotPrime, NotUnit, TooMany
from tests.helpers import refused, some
from tests.test_heights import NO_PRIMES, SMALL


def first_figures(p, a, b, count):
    """The figures of a / b, by its rest modulo a power of p."""
    rest = a * pow(b, -1, p ** count) % p ** count
    return [rest // p ** k % p for k in range(count)]


def is_least(head, again):
    size = len(again)
    shorter = any(size % d == 0 and again[:d] * (size // d) == again for d in range(1, size))
    return size > 0 and not shorter and (not head or head[-1] != again[-1])


class Rows(unittest.TestCase):  # [107]
    def check(self, p, a, b, most=2000):
        head, again = endless_row(p, a, b, most)
        self.assertTrue(is_least(head, again), (p, a, b))
        self.assertTrue(all(type(c) is int and 0 <= c < p for c in head + again))
        size = len(head) + 2 * len(again) + 3
        figures = (head + again * (size // len(again) + 1))[:size]
        self.assertEqual(list(figures), first_figures(p, a, b, size))
        common = math.gcd(a, b)
        self.assertEqual(endless_fraction(p, (head, again)), (a // common, b // common))
        return head, again

    def test_small_numbers(self):
        for p in (2, 3, 5, 7, 997):
            for a in range(-25, 26):
                for b in range(1, 16):
                    if b % p == 0:
                        refused(self, NotUnit, {}, endless_row, p, a, b, 100)
                        refused(self, NotUnit, {}, endless_row, p, a, b, 1)
                    else:
                        self.check(p, a, b)

    def test_by_hand(self):
        for p, a, b, wanted in (
            (5, 0, 1, ((), (0,))), (5, 0, 7, ((), (0,))), (2, -1, 1, ((), (1,))), (2, 1, 1, ((1,), (0,))), (3, -1, 2, ((), (1,))), (5, 1, 3, ((2,), (3, 1))), (7, 10, 1, ((3, 1), (0,))), (2, 1, 3, ((1,), (1, 0))),
        ):
            self.assertEqual(self.check(p, a, b), wanted)

    def test_great_numbers(self):
        source = some(701)
        for _ in range(60):
            p = source.choice(SMALL)
            b = source.choice((1, 3, 7, 11, 13, 101, 9999, 10 ** 4 + 1, p ** 2 - 1))
            a = source.randrange(-10 ** 12, 10 ** 12 + 1)
            if b % p:
                try:
                    self.check(p, a, b)
                except TooMany as error:
                    self.assertEqual(error.limit, 2000)
        for p in (2, 5, 997):
            for a in (10 ** 12, -(10 ** 12), 1):
                self.check(p, a, 1)
                refused(self, TooMany, {"limit": 2000}, endless_row, p, a, 10 ** 12 - 39 if p < 997 else 10 ** 12 - 11, 2000)

    def test_most(self):
        source = some(709)
        for _ in range(60):
            p, a, b = source.choice(SMALL[:20]), source.randrange(-1000, 1000), source.randrange(1, 60)
            if b % p == 0:
                continue
            head, again = endless_row(p, a, b, 2000)
            size = len(head) + len(again)
            self.assertEqual(endless_row(p, a, b, size), (head, again))
            for most in (size - 1, 1):
                if 0 < most < size:
                    refused(self, TooMany, {"limit": most}, endless_row, p, a, b, most)
        self.assertEqual(endless_row(2, 0, 1, 1), ((), (0,)))
        refused(self, TooMany, {"limit": 1}, endless_row, 2, 1, 1, 1)

    def test_fractions(self):
        source = some(719)
        for _ in range(200):
            p = source.choice(SMALL)
            head = tuple(source.randrange(p) for _ in range(source.randrange(6)))
            again = tuple(source.choice((0, p - 1, source.randrange(p))) for _ in range(source.randrange(1, 6)))
            a, b = endless_fraction(p, (head, again))
            self.assertEqual((math.gcd(a, b), b >= 1, b % p != 0), (1, True, True))
            size = 3 * len(head + again)
            self.assertEqual(first_figures(p, a, b, size), list((head + again * size)[:size]))
            # The same fraction from other forms of the row.
            self.assertEqual(endless_fraction(p, (head + again, again * 2)), (a, b))
            if abs(a) <= 10 ** 12 and b <= 10 ** 12:
                found = endless_row(p, a, b, 2000)
                self.assertEqual(is_least(head, again), found == (head, again))
        self.assertEqual(endless_fraction(2, ((), (0,) * 2000)), (0, 1))
        self.assertEqual(endless_fraction(997, ((5,) * 1999, (0,)))[1], 1)
        self.assertEqual(endless_fraction(997, ((), (996,) * 2000)), (-1, 1))
        a, b = endless_fraction(997, ((1,), tuple(k % 997 for k in range(1999))))
        self.assertEqual(first_figures(997, a, b, 50), ([1] + list(range(49))))

    def test_no_primes(self):
        for p in NO_PRIMES:
            refused(self, NotPrime, {}, endless_row, p, 1, 3, 10)
            refused(self, NotPrime, {}, endless_row, p, 1, abs(p) + 1, 1)
            refused(self, NotPrime, {}, endless_fraction, p, ((), (0,)))
        for p in (2, 4):
            refused(self, NotUnit if p == 2 else NotPrime, {}, endless_row, p, 1, 2, 1)
