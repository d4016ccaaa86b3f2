import math
import unittest

from numberpapers.squaresdiff import chain_part, squares_part
from tests.helpers import some
from tests.primes import is_prime


def by_squares(n, most):
    s = math.isqrt(n)
    s += s * s < n
    for t in range(most):
        y = math.isqrt((s + t) ** 2 - n)
        if y * y == (s + t) ** 2 - n:
            return ("part", t, s + t - y, s + t + y) if s + t - y != 1 else ("prime", t)
    return ("none",)


def by_chain(n, most):
    """The words of [53]; each A is also tried against its square modulo n."""
    s = math.isqrt(n)
    if s * s == n:
        return ("square", s)
    m, d, a = [0], [1], [s]
    for _ in range(most + 1):
        m.append(d[-1] * a[-1] - m[-1])
        d.append((n - m[-1] ** 2) // d[-1])
        a.append((s + m[-1]) // d[-1])
    A = [a[0], a[1] * a[0] + 1]
    for k in range(2, most + 1):
        A.append((a[k] * A[-1] + A[-2]) % n)
    for k in range(most + 1):
        assert (A[k] ** 2 - (d[k + 1] if k % 2 else -d[k + 1])) % n == 0
    for k in range(1, most + 1, 2):
        r = math.isqrt(d[k + 1])
        g = math.gcd(A[k] - r, n)
        if r * r == d[k + 1] and 1 < g < n:
            return ("part", k, g)
    return ("none",)


class SquaresPart(unittest.TestCase):  # [45], [52]
    def check(self, n, most):
        found = squares_part(n, most)
        self.assertEqual(found, by_squares(n, most))
        if found[0] == "part":
            _, _, a, b = found
            self.assertTrue(1 < a <= b < n and a * b == n and not is_prime(n))
            if n < 10 ** 7:
                self.assertEqual(a, max(d for d in range(1, math.isqrt(n) + 1) if n % d == 0))
        if found[0] == "prime":
            self.assertTrue(is_prime(n))
        return found[0]

    def test_small_numbers(self):
        kinds = set()
        for n in range(3, 600, 2):
            for most in (1, 2, 5, 400):
                kinds.add(self.check(n, most))
            self.assertNotEqual(squares_part(n, n), ("none",))
        self.assertEqual(kinds, {"part", "prime", "none"})
        self.assertEqual(squares_part(3, 1), ("prime", 0))
        self.assertEqual(squares_part(9, 1), ("part", 0, 3, 3))
        self.assertEqual(squares_part(15, 1), ("part", 0, 3, 5))

    def test_at_the_last_place(self):
        for n in range(3, 400, 2):
            found = squares_part(n, 10 ** 5)
            self.assertEqual(squares_part(n, found[1] + 1), found)
            self.assertEqual(squares_part(n, found[1]) if found[1] else ("none",), ("none",))

    def test_great_numbers(self):
        p, q = 10 ** 20 - 11, 10 ** 20 - 71
        self.assertEqual(self.check(p * p, 1), "part")
        self.assertEqual(squares_part((10 ** 19 + 51) ** 2, 1), ("part", 0, 10 ** 19 + 51, 10 ** 19 + 51))
        self.assertEqual(self.check(p * q, 10), "part")
        self.assertEqual(self.check((p - 2) * (p + 10 ** 12), 10 ** 5), "part")
        self.assertEqual(squares_part(10 ** 40 - 17, 10 ** 5), ("none",))
        self.assertEqual(self.check(10 ** 40 - 1, 1000), by_squares(10 ** 40 - 1, 1000)[0])
        source = some(263)
        for _ in range(50):
            a, b = source.randrange(10 ** 15, 10 ** 16) | 1, source.randrange(10 ** 15, 10 ** 16) | 1
            self.check(a * b, 50)
            self.check(a * (a + 2 * source.randrange(10 ** 6)), 300)


class ChainPart(unittest.TestCase):  # [45], [53]
    def check(self, n, most):
        found = chain_part(n, most)
        self.assertEqual(found, by_chain(n, most))
        if found[0] == "part":
            self.assertTrue(n % found[-1] == 0 and 1 < found[-1] < n and found[1] % 2 == 1 and not is_prime(n))
        return found[0]

    def test_small_numbers(self):
        kinds = set()
        for n in range(3, 900, 2):
            for most in (1, 2, 3, 4, 40):
                kinds.add(self.check(n, most))
        self.assertEqual(kinds, {"square", "part", "none"})
        self.assertEqual(chain_part(9, 1), ("square", 3))
        self.assertEqual(chain_part(3, 10 ** 4), ("none",))

    def test_at_the_last_index(self):
        for n in range(10001, 12001, 2):
            found = chain_part(n, 300)
            if found[0] == "part":
                self.assertEqual(chain_part(n, found[1]), found)
                self.assertEqual(chain_part(n, found[1] - 1) if found[1] > 1 else ("none",), ("none",))

    def test_great_numbers(self):
        source = some(269)
        self.assertEqual(chain_part((10 ** 20 - 1) ** 2, 5), ("square", 10 ** 20 - 1))
        self.assertEqual(chain_part(10 ** 40 - 17, 10 ** 4), ("none",))
        kinds = set()
        for digits in (6, 10, 14, 40):
            for _ in range(40):
                kinds.add(self.check(source.randrange(10 ** digits) | 1, 300))
        self.assertLessEqual({"part", "none"}, kinds)
        self.check(1000003 * 1000033, 10 ** 4)
        self.check(10 ** 40 - 1, 1000)
