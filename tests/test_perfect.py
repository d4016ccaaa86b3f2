import unittest

from numberpapers.divisors import divisor_sum
from numberpapers.errors import NotPaper, TooHard
from numberpapers.perfect import even_perfect, perfect_paper
from tests.hard import CASES
from tests.helpers import refused
from tests.judges import KNOWN, P, Q, TOO_HARD, WRONG_KNOWN, tried, whole
from tests.primes import breach, is_prime


def right_paper(n, word, value):
    """Whether a value is a paper that n is perfect, or is not, by the words of [97]."""
    if value[0] == "euclid":
        _, p, paper = value
        return word == "is" and 2 <= p <= 200 and n == 2 ** (p - 1) * (2 ** p - 1) and breach(2 ** p - 1, paper) is None
    total = 1
    for p, e, _ in value[1][2]:
        total *= sum(p ** k for k in range(e + 1))
    return value[0] == "sum" and len(value) == 2 and whole(n, value[1]) is None and (total == 2 * n) == (word == "is")


EVEN = tuple(2 ** (p - 1) * (2 ** p - 1) for p in (2, 3, 5, 7, 13, 17, 19, 31, 61))


class Perfect(unittest.TestCase):  # [97]
    def check(self, n, known=()):
        word, paper = perfect_paper(n, known)
        self.assertTrue(right_paper(n, word, paper), (n, word, paper))
        return word

    def test_small_numbers(self):
        for n in range(1, 1200):
            self.assertEqual(self.check(n), "is" if sum(d for d in range(1, n + 1) if n % d == 0) == 2 * n else "not")

    def test_perfect_numbers(self):
        for n in EVEN:
            self.assertEqual(self.check(n), "is")
            self.assertEqual(divisor_sum(n, 1), 2 * n)
            for other in (2 * n, n // 2) + ((n - 1, n + 1) if n < 10 ** 10 else ()):
                self.assertEqual(self.check(other), "not")
        self.assertEqual(self.check(10 ** 40), "not")

    def test_known(self):
        for n, known, more in CASES:
            if n <= 10 ** 40:
                refused(self, TooHard, TOO_HARD, perfect_paper, n)
                self.assertEqual(self.check(n, known), "not")
                self.assertEqual(self.check(n, more), "not")
        refused(self, TooHard, TOO_HARD, perfect_paper, P * Q, tried(2, 3))
        for known, place in WRONG_KNOWN:
            for n in (1, 6, P * Q):
                refused(self, NotPaper, {"place": place}, perfect_paper, n, known)
        self.assertEqual(self.check(6, KNOWN), "is")

    def test_all_even_ones(self):
        for most, count in ((0, 0), (1, 0), (5, 0), (6, 1), (7, 1), (27, 1), (28, 2), (495, 2), (496, 3), (8127, 3), (8128, 4), (10 ** 40, 9), (EVEN[8] - 1, 8), (EVEN[8], 9)):
            self.assertEqual(even_perfect(most), EVEN[:count], most)
        self.assertFalse([p for p in range(62, 68) if is_prime(2 ** p - 1)])
