import math
import unittest

from numberpapers.divisors import divisor_sum, divisors, moebius
from numberpapers.errors import NotPaper, TooHard, TooMany
from tests.hard import CASES
from tests.helpers import refused, some
from tests.judges import P, Q, TOO_HARD, WRONG_KNOWN, factors, told_by, tried
from tests.primes import PRIMES

MOST = {"limit": 10000}


def by_parts(parts, k):
    return math.prod(sum(p ** (k * i) for i in range(e + 1)) for p, e in parts)


class Divisors(unittest.TestCase):  # [94]
    def test_small_numbers(self):
        for n in range(1, 600):
            found = tuple(d for d in range(1, n + 1) if n % d == 0)
            self.assertEqual(divisors(n), found)
            for k in (0, 1, 2, 3, 20):
                self.assertEqual(divisor_sum(n, k), sum(d ** k for d in found))
            exponents = [e for _, e in factors(n)]
            self.assertEqual(moebius(n), 0 if max(exponents + [0]) > 1 else (-1) ** len(exponents))

    def test_edges(self):
        self.assertEqual((divisors(1), divisor_sum(1, 0), divisor_sum(1, 20), moebius(1)), ((1,), 1, 1, 1))
        self.assertEqual((moebius(2), moebius(4), moebius(6), moebius(30)), (-1, 0, 1, -1))
        self.assertEqual(len(divisors(10 ** 40)), 41 ** 2)
        self.assertEqual(divisor_sum(10 ** 40, 20), by_parts(((2, 40), (5, 40)), 20))
        self.assertEqual(moebius(10 ** 40), 0)

    def test_just_so_many(self):
        exact = 2 ** 9 * 3 ** 9 * 5 ** 9 * 7 ** 9
        for n, count in (
            (exact, 10000), (exact * 2, 11000), (2 ** 15 * 3 ** 4 * 5 ** 4 * 7 ** 4 * 11 * 13 * 17, 16000), (math.prod(PRIMES[:13]), 2 ** 13), (math.prod(PRIMES[:14]), 2 ** 14),
            (2 ** 4 * 3 ** 4 * 5 ** 4 * 7 ** 4 * 11 * 13 * 17 * 19, 10000), (73 * 2 ** 72 * 3 ** 67, 2 * 73 * 68), (10 ** 40 // 5 ** 40 * 5 ** 31 // 2 ** 20, 21 * 32),
            (2 ** 136 * 3 ** 72 // 2 ** 120 // 3 ** 20, 17 * 53),
        ):
            self.assertEqual(divisor_sum(n, 0), count)
            if count > 10000:
                refused(self, TooMany, MOST, divisors, n)
            else:
                found = divisors(n)
                self.assertEqual((len(found), list(found)), (count, sorted(set(found))))
                self.assertTrue(all(n % d == 0 for d in found))

    def test_known(self):
        source = some(587)
        for n, known, more in CASES:
            if n > 10 ** 40:
                continue
            primes = [q for q, _ in known]
            self.assertTrue(told_by(n, primes))
            for function in (divisors, moebius):
                refused(self, TooHard, TOO_HARD, function, n)
                refused(self, TooHard, TOO_HARD, function, n, tried(3, 7))
                self.assertEqual(function(n, known), function(n, more))
            k = source.randrange(21)
            refused(self, TooHard, TOO_HARD, divisor_sum, n, k)
            self.assertEqual(divisor_sum(n, k, known), sum(d ** k for d in divisors(n, more)))
            self.assertTrue(all(n % d == 0 for d in divisors(n, known)))
        self.assertEqual(divisors(P * Q, tried(P)), (1, P, Q, P * Q))
        self.assertEqual((moebius(P * Q, tried(Q)), moebius(2 * P * Q, tried(Q)), moebius(P * P)), (1, -1, 0))

    def test_errors_in_their_sequence(self):
        for known, place in WRONG_KNOWN:
            for n in (1, 12, P * Q, math.prod(PRIMES[:14])):
                refused(self, NotPaper, {"place": place}, divisors, n, known)
                refused(self, NotPaper, {"place": place}, divisor_sum, n, 3, known)
                refused(self, NotPaper, {"place": place}, moebius, n, known)
        # Not told comes ahead of too many.
        n = math.prod(PRIMES[:14]) * P * Q
        refused(self, TooHard, TOO_HARD, divisors, n)
        refused(self, TooMany, MOST, divisors, n, tried(P))
        # A square shows itself, and all the same n is not told.
        refused(self, TooHard, TOO_HARD, moebius, 4 * P * Q)
        self.assertEqual(moebius(4 * P * Q, tried(P)), 0)
