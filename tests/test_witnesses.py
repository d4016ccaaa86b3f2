import math
import unittest

from numberpapers.errors import IsPrime
from numberpapers.witnesses import is_witness, least_strong, strong_count
from tests.helpers import ANY, changed, refused, some
from tests.primes import is_prime, right_witness, strong


class Witnesses(unittest.TestCase):  # [40]
    def test_all_witnesses_of_small_numbers(self):
        for n in range(0, 70):
            some_right = False
            for value in [("small",)] + [(w, a) for w in ("divisor", "power", "root", "strong") for a in range(-2, n + 3)]:
                right = right_witness(n, value)
                self.assertIs(is_witness(n, value), right, (n, value))
                some_right = some_right or right
            self.assertIs(some_right, not is_prime(n))

    def test_great_numbers(self):
        p = 10 ** 299 + 7 * 10 ** 6 + 1
        n = (10 ** 150 + 67) * (10 ** 149 + 9)
        for value in (
            ("divisor", 10 ** 150 + 67), ("divisor", 10 ** 150 + 68), ("divisor", n), ("divisor", 1), ("power", 2), ("power", n - 1),
            ("power", n), ("strong", 2), ("strong", n - 2), ("strong", n - 1), ("root", n - 1), ("root", 1), ("root", 10 ** 400),
        ):
            self.assertIs(is_witness(n, value), right_witness(n, value), value)
            self.assertIs(is_witness(p, value), right_witness(p, value), value)
        x = self.root_of_one(10 ** 150 + 67, 10 ** 149 + 9)
        self.assertIs(is_witness(n, ("root", x)), True)
        self.assertIs(is_witness(n, ("root", n - x)), True)

    def root_of_one(self, u, v):
        """A number that is 1 modulo u and -1 modulo v."""
        return (1 + u * ((-2 * pow(u, -1, v)) % v)) % (u * v)

    def test_by_hand(self):
        self.assertIs(is_witness(8, ("strong", 3)), False)
        self.assertIs(is_witness(8, ("root", 3)), True)
        self.assertIs(is_witness(15, ("root", 4)), True)
        self.assertIs(is_witness(341, ("power", 2)), False)
        self.assertIs(is_witness(341, ("strong", 2)), True)
        self.assertIs(is_witness(2047, ("strong", 2)), False)
        self.assertIs(is_witness(0, ("small",)), True)
        self.assertIs(is_witness(1, ("small",)), True)
        self.assertIs(is_witness(2, ("small",)), False)
        self.assertIs(is_witness(4, ("divisor", 2)), True)

    def test_any_value(self):
        rights = {0: ("small",), 15: ("divisor", 3), 9: ("power", 2), 21: ("root", 8), 25: ("strong", 2), 7: ("power", 3)}
        for n, right in rights.items():
            for value in list(ANY) + list(changed(right)):
                self.assertIs(is_witness(n, value), right_witness(n, value), (n, value))

    def test_least_strong(self):
        for n in list(range(9, 3000, 2)) + [10 ** 12 - 11, 10 ** 12 - 39, 10 ** 12 - 1, 25326001, 3215031751, 999 ** 4]:
            if is_prime(n):
                refused(self, IsPrime, {}, least_strong, n)
            else:
                self.assertEqual(least_strong(n), next(a for a in range(2, n) if strong(n, a)))
        self.assertEqual(least_strong(3215031751), 11)
        self.assertEqual(least_strong(25326001), 7)
        self.assertEqual(least_strong(9), 2)
        self.assertEqual(least_strong(999999999989 - 2), 2)
        source = some(157)
        for _ in range(300):
            n = source.randrange(9, 10 ** 12) | 1
            if is_prime(n):
                refused(self, IsPrime, {}, least_strong, n)
            else:
                self.assertEqual(least_strong(n), next(a for a in range(2, n) if strong(n, a)))

    def test_counts(self):
        for n in list(range(5, 400, 2)) + [9999, 9973, 8911, 2047, 1105]:
            found = strong_count(n)
            self.assertEqual(found, sum(strong(n, a) for a in range(2, n - 1)))
            if is_prime(n):
                self.assertEqual(found, 0)
            else:
                units = sum(math.gcd(a, n) == 1 for a in range(n))
                self.assertGreaterEqual(2 * found, units)
