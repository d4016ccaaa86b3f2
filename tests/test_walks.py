import math
import unittest

from numberpapers.walks import powers_part, walk_part, walk_shape
from tests.helpers import some
from tests.primes import is_prime


def walk(n, c, start, size):
    row = [start]
    for _ in range(size):
        row.append((row[-1] ** 2 + c) % n)
    return row


def first_walk(n, c, start, most):
    row = walk(n, c, start, 2 * most)
    for k in range(1, most + 1):
        g = math.gcd(n, row[2 * k] - row[k])
        if g > 1:
            return ("part", k, g) if g < n else ("whole", k)
    return ("none",)


def first_power(n, a, most):
    b = a
    for k in range(1, most + 1):
        b = pow(b, k, n)
        g = math.gcd(n, b - 1)
        if g > 1:
            return ("part", k, g) if g < n else ("whole", k)
    return ("none",)


class Walks(unittest.TestCase):  # [45], [50]
    def check(self, n, c, start, most):
        found = walk_part(n, c, start, most)
        self.assertEqual(found, first_walk(n, c, start, most))
        if found[0] == "part":
            self.assertTrue(n % found[-1] == 0 and 1 < found[-1] < n and not is_prime(n))
        return found

    def test_small_numbers(self):
        kinds = set()
        for n in range(2, 60):
            for c in range(0, n, 1 + n // 12):
                for start in range(0, n, 1 + n // 12):
                    for most in (1, 2, 7, 60):
                        kinds.add(self.check(n, c, start, most)[0])
                    self.assertNotEqual(walk_part(n, c, start, min(p for p in range(2, n + 1) if n % p == 0)), ("none",))
        self.assertEqual(kinds, {"part", "whole", "none"})

    def test_k_at_1_and_at_most(self):
        self.assertEqual(walk_part(4, 0, 0, 1), ("whole", 1))
        source = some(241)
        for _ in range(200):
            n = source.randrange(10 ** 5, 10 ** 9)
            c, start = source.randrange(n), source.randrange(n)
            found = self.check(n, c, start, 3000)
            if found[0] != "none" and found[1] > 1:
                k = found[1]
                self.assertEqual(walk_part(n, c, start, k), found)
                self.assertEqual(walk_part(n, c, start, k - 1), ("none",))

    def test_great_numbers(self):
        n = 1000003 * (10 ** 33 + 18889)
        self.assertEqual(self.check(n, 1, 2, 10 ** 4)[0], "part")
        self.assertEqual(walk_part(10 ** 40 - 17, 1, 2, 10 ** 5), ("none",))
        self.assertEqual(self.check(10 ** 40, 10 ** 40 - 1, 10 ** 40 - 1, 100), first_walk(10 ** 40, 10 ** 40 - 1, 10 ** 40 - 1, 100))
        p = 99991
        self.assertNotEqual(walk_part(p * (10 ** 34 + 7), 3, 5, 10 ** 5), ("none",))
        self.assertEqual(walk_part(p, 3, 5, 10 ** 5)[0], "whole")

    def test_shapes(self):
        for n in list(range(1, 40)) + [97, 128, 1001]:
            for c in range(0, n, 1 + n // 20):
                for start in range(0, n, 1 + n // 20):
                    row = walk(n, c, start, 3 * n)
                    tail, lap = walk_shape(n, c, start)
                    self.assertEqual(row[tail + lap], row[tail])
                    self.assertEqual(len(set(row)), tail + lap)
        self.assertEqual(walk_shape(1, 0, 0), (0, 1))
        self.assertEqual(walk_shape(10 ** 5, 0, 0), (0, 1))
        tail, lap = walk_shape(10 ** 5, 1, 2)
        row = walk(10 ** 5, 1, 2, tail + lap)
        self.assertEqual((len(set(row)), row[tail]), (tail + lap, row[-1]))

    def test_shapes_of_products(self):
        source = some(251)
        for _ in range(300):
            u, v = source.randrange(1, 300), source.randrange(1, 300)
            if math.gcd(u, v) == 1:
                c, start = source.randrange(u * v), source.randrange(u * v)
                (t, r), (w, s) = walk_shape(u, c % u, start % u), walk_shape(v, c % v, start % v)
                self.assertEqual(walk_shape(u * v, c, start), (max(t, w), math.lcm(r, s)))


class Powers(unittest.TestCase):  # [45], [51]
    def check(self, n, a, most):
        found = powers_part(n, a, most)
        self.assertEqual(found, first_power(n, a, most))
        if found[0] == "part":
            self.assertTrue(n % found[-1] == 0 and 1 < found[-1] < n and not is_prime(n))
        return found

    def test_small_numbers(self):
        kinds = set()
        for n in range(3, 90):
            for a in range(2, n):
                for most in (1, 2, 3, 10):
                    kinds.add(self.check(n, a, most)[0])
                for p in (p for p in range(2, n + 1) if n % p == 0 and is_prime(p) and a % p):
                    least = next(k for k in range(1, 99) if math.factorial(k) % (p - 1) == 0)
                    self.assertTrue(powers_part(n, a, least)[0] != "none")
        self.assertEqual(kinds, {"part", "whole", "none"})

    def test_k_at_1_and_at_most(self):
        self.assertEqual(powers_part(9, 4, 1), ("part", 1, 3))
        self.assertEqual(powers_part(9, 2, 1), ("none",))
        self.assertEqual(powers_part(7, 6, 2), ("whole", 2))
        source = some(257)
        for _ in range(200):
            n = source.randrange(10 ** 4, 10 ** 7)
            a = source.randrange(2, n)
            found = self.check(n, a, 200)
            if found[0] != "none" and found[1] > 1:
                self.assertEqual(powers_part(n, a, found[1]), found)
                self.assertEqual(powers_part(n, a, found[1] - 1), ("none",))

    def test_great_numbers(self):
        p = 2 ** 5 * 3 ** 2 * 5 * 7 * 11 * 13 * 17 * 23
        while not is_prime(p + 1):
            p *= 29
        n = (p + 1) * (10 ** 20 + 39)
        if n < 10 ** 40:
            self.check(n, 2, 100)
        self.assertEqual(self.check(1000003 * (10 ** 33 + 18889), 2, 10 ** 4)[0], first_power(1000003 * (10 ** 33 + 18889), 2, 10 ** 4)[0])
        self.assertEqual(powers_part(10 ** 40 - 17, 2, 10 ** 4), ("none",))
        self.assertEqual(self.check(10 ** 40, 10 ** 40 - 1, 10), ("part", 1, 2))
