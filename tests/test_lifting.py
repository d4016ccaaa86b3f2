import math
import unittest

from numberpapers.errors import NotPaper, TooHard, TooMany
from numberpapers.lifting import all_roots, how_many, root_rows
from tests.hard import CASES
from tests.helpers import refused, some
from tests.judges import P, Q, TOO_HARD, WRONG_KNOWN, factors, told_by, tried
from tests.test_squareroots import GREAT_PRIMES
from tests.unitcases import GREATS, number

FUNCTIONS = (root_rows, how_many, all_roots)


class Roots(unittest.TestCase):  # [68]
    def check(self, n):
        roots = {}
        for x in range(n):
            roots.setdefault(x * x % n, []).append(x)
        for a in range(n):
            wanted = tuple(roots.get(a, ()))
            self.assertEqual(all_roots(a, n), wanted)
            self.assertEqual(how_many(a, n), len(wanted))
            self.assertEqual(root_rows(a, n), self.rows(a, n, bool(wanted)))

    def rows(self, a, n, is_square):
        """The rows by the words of [68]."""
        if not is_square:
            return ()
        found = []
        for q, k in factors(n):
            j = next(j for j in range(k + 1) if j == k or a % q ** (j + 1))
            if j >= k or a == 0:
                found.append((q ** ((k + 1) // 2), (0,)))
            else:
                m = q ** (k - j // 2)
                found.append((m, tuple(sorted({x % m for x in range(q ** k) if (x * x - a) % q ** k == 0}))))
        return tuple(found)

    def test_small_numbers(self):
        for n in list(range(1, 150)) + [243, 256, 343, 360, 512, 625, 720]:
            self.check(n)
        self.assertEqual([function(0, 1) for function in FUNCTIONS], [(), 1, (0,)])

    def test_powers_of_2(self):
        # q = 2 with every k and j from 0 to 5, and more.
        for k in range(0, 6):
            for j in range(0, 6):
                n = 2 ** (k + j)
                for a in range(0, n, 2 ** j):
                    for m in (n, 3 * n, 9 * n):
                        roots = tuple(x for x in range(m) if (x * x - a) % m == 0)
                        self.assertEqual(all_roots(a, m), roots)
                        self.assertEqual(how_many(a, m), len(roots))

    def test_how_many_rests(self):
        for n, a, counts in (
            (2, 1, (1,)), (4, 1, (2,)), (8, 1, (4,)), (2 ** 132, 17, (4,)), (2 ** 132, 16, (4,)), (27, 9, (2,)), (27, 0, (1,)), (9, 0, (1,)),
            (8 * 9 * 5, 1, (4, 2, 2)), (2 ** 5, 16, (1,)), (2 ** 6, 16, (2,)), (2 ** 7, 16, (4,)), (3 ** 83, 3 ** 82, (2,)),
        ):
            self.assertEqual(tuple(len(rests) for _, rests in root_rows(a, n)), counts, (a, n))
        self.assertEqual(root_rows(3 ** 82, 3 ** 82 * 5), ((3 ** 41, (0,)), (5, (2, 3))))

    def test_great_numbers(self):
        source = some(349)
        for parts in GREATS:
            n = number(parts)
            for factor in (1, parts[0][0], parts[-1][0], parts[-1][0] ** (parts[-1][1] // 2)):
                x = source.randrange(n) * factor % n
                a = x * x % n
                rows = root_rows(a, n)
                self.assertEqual(len(rows), len(parts))
                count = 1
                for (q, k), (m, rests) in zip(parts, rows):
                    self.assertIn(x % m, rests)
                    self.assertEqual(list(rests), sorted(set(rests)))
                    self.assertTrue(all(0 <= r < m and (r * r - a) % q ** k == 0 for r in rests))
                    self.assertTrue(all(((r + m) ** 2 - a) % q ** k == 0 for r in rests))
                    count *= q ** k // m * len(rests)
                self.assertEqual(how_many(a, n), count)
                self.great(a, n, count, x)
            self.assertEqual(how_many(0, n), math.prod(q ** (k // 2) for q, k in parts))

    def great(self, a, n, count, x):
        if count > 5000:
            refused(self, TooMany, {"limit": 5000}, all_roots, a, n)
            return
        roots = all_roots(a, n)
        self.assertEqual((len(roots), list(roots)), (count, sorted(set(roots))))
        self.assertIn(x, roots)
        self.assertTrue(all((r * r - a) % n == 0 and 0 <= r < n for r in roots))

    def test_great_primes(self):
        told = 0
        for p in GREAT_PRIMES:
            if not told_by(p, ()):
                refused(self, TooHard, TOO_HARD, root_rows, 4, p)
                continue
            told += 1
            for x in (0, 1, 2, 3, 10 ** 10 + 7):
                self.assertEqual(root_rows(x * x, p), ((p, (x, p - x) if x else (0,)),))
                self.assertEqual(all_roots(x * x, p), (x, p - x) if x else (0,))
        self.assertGreater(told, 2)

    def test_5000_and_more(self):
        # The roots of 0 modulo q ** 2 are the multiples of q.
        self.assertEqual(all_roots(0, 4987 ** 2), tuple(range(0, 4987 ** 2, 4987)))
        self.assertEqual(all_roots(0, 5000 ** 2), tuple(range(0, 5000 ** 2, 5000)))
        self.assertEqual(how_many(0, 5001 ** 2), 5001)
        refused(self, TooMany, {"limit": 5000}, all_roots, 0, 5001 ** 2)
        refused(self, TooMany, {"limit": 5000}, all_roots, 0, 10 ** 40)
        self.assertEqual(how_many(0, 10 ** 40), 10 ** 20)
        n = 3 * 5 * 7 * 11 * 13 * 17 * 19 * 23 * 29 * 31 * 37 * 41
        self.assertEqual((how_many(1, n), len(all_roots(1, n))), (4096, 4096))
        self.assertEqual(how_many(1, 43 * n), 8192)
        refused(self, TooMany, {"limit": 5000}, all_roots, 1, 43 * n)
        self.assertEqual(all_roots(2, 43 * n), ())

    def test_known(self):
        for n, enough, more in CASES:
            if n > 10 ** 40:
                continue
            for function in FUNCTIONS:
                refused(self, TooHard, TOO_HARD, function, 0, n)
                refused(self, TooHard, TOO_HARD, function, 1 % n, n, tried(2, 3))
            for known in (enough, more):
                self.assertIn(1, all_roots(1, n, known))
                self.assertEqual(how_many(1, n, known), len(all_roots(1, n, known)))
                self.assertEqual(len(root_rows(1, n, known)), len({q for q, _ in root_rows(1, n, known)}))
        self.assertEqual(how_many(4, P * Q, tried(P)), 4)
        refused(self, TooHard, TOO_HARD, all_roots, 0, (P * Q) ** 2)
        refused(self, TooMany, {"limit": 5000}, all_roots, 0, (P * Q) ** 2, tried(P))

    def test_wrong_papers_come_first(self):
        for known, place in WRONG_KNOWN:
            for a, n in ((0, 1), (2, 3), (1, P * Q), (0, 10 ** 40)):
                for function in FUNCTIONS:
                    refused(self, NotPaper, {"place": place}, function, a, n, known)
