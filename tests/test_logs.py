import math
import unittest

from numberpapers.errors import NotPaper, NotUnit, TooHard
from numberpapers.logs import log_of, log_paper
from tests.hard import HARD
from tests.helpers import refused, some
from tests.judges import P, Q, TOO_HARD, WRONG_KNOWN, factors, is_log_bar, order, tried
from tests.unitcases import LACKING, NEEDED, STEEP, cases, count_parts, number, ordered, smalls, unit_of

STEPS = {"limit": 10 ** 6}


def power_parts(a, parts, known):
    """For each prime part q its order of a, and the primes of that."""
    found = []
    for p, k in parts:
        q = p ** k
        d = ordered(q, ((p, k),), known, a)
        primes = {r for _, some_primes in count_parts(((p, k),), known) for r in some_primes}
        found.append((p, q, d, [r for r in primes if d % r == 0]))
    return found


def in_two(a, b, q):
    """Whether b is a power of a modulo a power q of 2."""
    a, b = a % q, b % q
    if q < 4:
        return True
    if a % 4 == 1:
        # The powers of a are all that leave 1 by the greatest power of 2 that divides a - 1.
        return b == 1 if a == 1 else (b - 1) % ((a - 1) & (1 - a)) == 0
    # Of an odd and an even exponent; the square of a is a number of the first sort.
    return in_two(a * a, b, q) or in_two(a * a, b * pow(a, -1, q), q)


class Logs(unittest.TestCase):  # [55], [61]
    def check(self, a, b, n, known=()):
        word, paper = log_paper(a, b, n, known)
        e = log_of(a, b, n, known)
        if word == "is":
            self.assertEqual(len(paper), 1)
            self.assertTrue(0 <= paper[0] <= 10 ** 40 and pow(a, paper[0], n) == b % n)
            self.assertTrue(0 <= e <= paper[0] and pow(a, e, n) == b % n)
        else:
            self.assertEqual(word, "not")
            self.assertTrue(is_log_bar(a % n, b % n, n, paper), (a, b, n, paper))
            self.assertIsNone(e)
        return paper[0] if word == "not" else "is"

    def test_small_numbers(self):
        kinds = {}
        for n, units in smalls():
            for a in units[::1 + len(units) // 12]:
                powers = {pow(a, e, n): e for e in reversed(range(order(a, n)))}
                for b in units if n < 60 else units[::1 + len(units) // 20]:
                    self.assertEqual(log_of(a, b, n), powers.get(b))
                    kind = self.check(a, b, n)
                    kinds[kind] = kinds.get(kind, 0) + 1
        self.assertLessEqual({"is", "bar", "four", "two", "clash"}, set(kinds))

    def test_edges(self):
        self.assertEqual(log_paper(1, 1, 2), ("is", (0,)))
        self.assertEqual(log_paper(1, 3, 4), ("not", ("four",)))
        self.assertEqual(log_paper(-3, -1, 4), ("not", ("four",)))
        self.assertEqual(log_of(3, 1, 4), 0)
        self.assertEqual((log_of(3, 3, 8), log_of(3, 5, 8), log_of(7, 1, 8)), (1, None, 0))
        self.assertEqual(log_of(10 ** 41, -10 ** 41 + 2 * 10 ** 41, 7), 1)
        self.assertEqual(log_of(1, 1, 10 ** 40), 0)

    def test_all_of_the_powers_of_2(self):
        for k in (3, 4, 5, 6):
            n = 2 ** k
            for a in range(1, n, 2):
                for b in range(1, n, 2):
                    self.assertIs(self.check(a, b, n) == "is", in_two(a, b, n))
        source = some(307)
        n = 2 ** 132
        counts = {}
        for shift in (2, 3, 10, 60, 130, 131, 140):
            for sign in (1, -1):
                for _ in range(2):
                    a = sign * (1 + (source.randrange(10 ** 30) << shift)) % n | 1
                    for b in (pow(a, source.randrange(10 ** 39), n), -pow(a, 77, n) % n, pow(5, source.randrange(10 ** 9) << source.randrange(100), n)):
                        kind = self.check(a, b, n)
                        self.assertIs(kind == "is", in_two(a, b, n))
                        counts[kind] = counts.get(kind, 0) + 1
        self.assertEqual(set(counts), {"is", "four", "two"})

    def test_great_numbers(self):
        source = some(311)
        counts = {}
        for parts, known in cases():
            n = number(parts)
            a, b = unit_of(n, source), unit_of(n, source)
            c = pow(a, source.randrange(10 ** 30), n)
            for base, other in ((a, b), (a, c), (c, b), (b, c), (1, b), (-1, b), (a, 1), (pow(a, 4, n), pow(a, 6, n))):
                kind = self.one(base, other, n, parts, known)
                counts[kind] = counts.get(kind, 0) + 1
        self.assertEqual(set(counts), {"is", "four", "two", "bar", "clash", "steep"})

    def one(self, a, b, n, parts, known):
        """Whether the error of the last sentence is raised just where it must be."""
        rows = power_parts(a, parts, known)
        barred = any(pow(b, d, q) != 1 for p, q, d, _ in rows if p > 2)
        barred = barred or any(not in_two(a, b, q) for p, q, _, _ in rows if p == 2)
        if not barred and any(p > 2 and max(primes + [1]) > 10 ** 6 for p, _, _, primes in rows):
            refused(self, TooHard, STEPS, log_of, a, b, n, known)
            refused(self, TooHard, STEPS, log_paper, a, b, n, known)
            return "steep"
        kind = self.check(a, b, n, known)
        self.assertIs(kind in ("four", "two", "bar"), barred)
        return kind

    def test_just_below_and_above_10_to_the_6(self):
        below, above = 999983, 1000003
        for prime, hard in ((below, False), (above, True)):
            p = next(k * prime + 1 for k in range(2, 999, 2) if len(factors(k * prime + 1)) == 1)
            g = next(g for g in range(2, 99) if ordered(p, ((p, 1),), (), g) % prime == 0)
            short = pow(g, prime, p)
            self.assertEqual(self.one(g, pow(g, 12345, p), p, ((p, 1),), ()), "steep" if hard else "is")
            # An order without the great prime is not too hard.
            self.assertEqual(self.one(short, pow(short, 2, p), p, ((p, 1),), ()), "is")
            self.assertEqual(self.one(short, g, p, ((p, 1),), ()), "bar")
            self.assertEqual(self.one(g, 1, p, ((p, 1),), ()), "steep" if hard else "is")
            self.assertEqual(self.one(g, g, p, ((p, 1),), ()), "steep" if hard else "is")
        # A bar modulo a power of 2 comes ahead, and so does one modulo another prime.
        n = 4 * STEEP
        a = next(a for a in range(5, 999, 4) if a % STEEP)
        b = next(b for b in range(3, 999, 4) if b % STEEP)
        self.assertEqual(self.one(a, b, n, ((2, 2), (STEEP, 1)), ()), "four")
        self.assertEqual(self.one(a, a, n, ((2, 2), (STEEP, 1)), ()), "steep")
        self.assertEqual(self.one(16, 3, 5 * STEEP, ((5, 1), (STEEP, 1)), ()), "bar")

    def test_clashes(self):
        # 2 modulo 5 and 3 modulo 7: orders 4 and 6.
        for n in (35, 65, 91, 5 * 7 * 13, 16 * 5, 8 * 7):
            units = [a for a in range(n) if math.gcd(a, n) == 1]
            kinds = {self.check(a, b, n) for a in units[1:9] for b in units}
            self.assertIn("clash", kinds)

    def test_errors(self):
        for a, b, n in ((2, 1, 4), (1, 2, 4), (0, 0, 2), (0, 1, 7), (1, 7, 7), (P, 1, P * Q), (1, Q, P * Q), (HARD, 1, HARD)):
            for function in (log_of, log_paper):
                refused(self, NotUnit, {}, function, a, b, n)
                refused(self, NotUnit, {}, function, a, b, n, tried(2, 3))
                for known, place in WRONG_KNOWN:
                    refused(self, NotPaper, {"place": place}, function, a, b, n, known)
        for parts, known in LACKING + tuple((parts, ()) for parts, _ in NEEDED):
            n = number(parts)
            for a, b in ((1, 1), (1, -1), (n + 1, 1)):
                for function in (log_of, log_paper):
                    refused(self, TooHard, TOO_HARD, function, a, b, n, known)
        # It comes ahead, too, where there would be a paper ("four",).
        n = 4 * P * Q
        b = 3 if P * Q % 3 else 7
        for function in (log_of, log_paper):
            refused(self, TooHard, TOO_HARD, function, 1, b, n)
            self.assertEqual(log_paper(1, b, n, tried(P)), ("not", ("four",)))
