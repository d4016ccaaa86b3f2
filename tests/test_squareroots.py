import math
import unittest

from numberpapers.errors import NotPaper, TooHard
from numberpapers.signs import sign_sheet
from numberpapers.squareroots import (
    is_square_bar, is_square_paper, least_nonsquare, prime_root, square_paper,
)
from tests.hard import CASES, HARD, HARD_PAPER
from tests.helpers import ANY, changed, refused, some
from tests.judges import P, Q, TOO_HARD, WRONG_KNOWN, is_bar, is_root, tried
from tests.primes import PRIMES, is_prime
from tests.test_soft import next_prime, soft_prime
from tests.unitcases import GREATS, number


def primes_of_all_sorts():
    """Great primes, by what they leave by powers of 2."""
    found = [10 ** 40 - 17, next_prime(10 ** 39), next_prime(10 ** 20)]
    for twos in (2, 3, 5, 60, 120):
        k = 10 ** 38 >> twos | 1
        while not is_prime(k * 2 ** twos + 1):
            k += 2
        found.append(k * 2 ** twos + 1)
    return found


GREAT_PRIMES = primes_of_all_sorts()


class Nonsquares(unittest.TestCase):  # [65]
    def test_small_primes(self):
        for p in PRIMES[1:400] + [99991]:
            squares = {x * x % p for x in range(p)}
            z = least_nonsquare(p)
            self.assertEqual(z, next(z for z in range(2, p + 1) if z not in squares))
            self.assertLess(z * (z - 1), p)
        self.assertEqual([least_nonsquare(p) for p in (3, 5, 7, 23, 71, 311)], [2, 2, 3, 5, 7, 11])

    def test_great_primes(self):
        self.assertTrue(is_prime(196265095009))
        self.assertGreater(least_nonsquare(196265095009), 40)
        for p in [196265095009] + GREAT_PRIMES:
            z = least_nonsquare(p)
            self.assertEqual([pow(x, p // 2, p) == 1 for x in range(2, z + 1)], [True] * (z - 2) + [False])

    def test_around_2000(self):
        # By how they are made, all numbers below 2003, or all below 1999, are squares modulo these primes.
        small = [q for q in PRIMES if q <= 2000]
        p = 365 * 8 * math.prod(small) + 1
        refused(self, TooHard, {"limit": 2000}, least_nonsquare, p)
        q = 383 * 8 * math.prod(small[:-1]) + 1
        self.assertEqual((small[-1], least_nonsquare(q)), (1999, 1999))
        self.assertTrue(is_prime(p) and is_prime(q))

    def test_roots_modulo_primes(self):
        source = some(337)
        for p in PRIMES[1:60] + GREAT_PRIMES:
            for _ in range(8):
                x = source.randrange(1, p)
                self.assertIn(prime_root(x * x % p, p), (x, p - x))


class SquarePapers(unittest.TestCase):  # [66], [67]
    def check(self, a, n, known=None):
        word, paper = square_paper(a, n) if known is None else square_paper(a, n, known)
        if word == "is":
            self.assertTrue(is_root(a, n, paper))
            self.assertIs(is_square_paper(a, n, paper), True)
            return "is"
        self.assertEqual(word, "not")
        self.assertTrue(is_bar(a, n, paper), (a, n, paper))
        self.assertIs(is_square_bar(a, n, paper), True)
        return paper[0]

    def test_small_numbers(self):
        kinds = set()
        for n in list(range(1, 150)) + [243, 256, 343, 360, 512, 625, 720, 729]:
            squares = {x * x % n for x in range(n)}
            for a in range(n):
                kind = self.check(a, n)
                self.assertIs(kind == "is", a in squares)
                kinds.add(kind)
        self.assertLessEqual({"is", "odd", "power", "eight"}, kinds)
        self.assertEqual(square_paper(0, 1), ("is", (0,)))

    def test_powers_of_2(self):
        # q = 2 with every k and j.
        for k in range(1, 9):
            n = 2 ** k
            squares = {x * x % n for x in range(n)}
            for j in range(k):
                for odd in range(1, 2 ** (k - j), 2):
                    a = odd << j
                    kind = self.check(a, n)
                    self.assertEqual(kind, "is" if a in squares else "odd" if j % 2 else "eight")

    def test_great_numbers(self):
        source = some(347)
        kinds = {}
        for parts in GREATS:
            n = number(parts)
            x = source.randrange(n)
            numbers = [0, 1 % n, n - 1, x, x * x % n, parts[-1][0] ** 2 * x * x % n, parts[0][0] * x % n, 4 * x * x % n]
            for a in numbers:
                kind = self.check(a, n)
                kinds[kind] = kinds.get(kind, 0) + 1
                euler = all(self.local(a, p, k) for p, k in parts)
                self.assertIs(kind == "is", euler)
        self.assertEqual(set(kinds), {"is", "odd", "power", "eight"})

    def local(self, a, p, k):
        """Whether a is a square modulo p ** k."""
        a, j = a % p ** k, 0
        if a == 0:
            return True
        while a % p == 0:
            a, j = a // p, j + 1
        if j % 2:
            return False
        return a % min(8, 2 ** (k - j)) == 1 if p == 2 else pow(a, p // 2, p) == 1

    def test_known(self):
        for n, enough, more in CASES:
            if n > 10 ** 40:
                continue
            for a in (0, 1, n - 1, 7 % n):
                refused(self, TooHard, TOO_HARD, square_paper, a, n)
                for known in (enough, more):
                    self.check(a, n, known)
            refused(self, TooHard, TOO_HARD, square_paper, 0, n, tried(2, 3))
        # What is less by 1 than a prime of n need not be told.
        self.assertEqual(self.check(4, HARD, ((HARD, HARD_PAPER),)), "is")

    def test_wrong_papers_come_first(self):
        for known, place in WRONG_KNOWN:
            for a, n in ((0, 1), (2, 3), (1, P * Q)):
                refused(self, NotPaper, {"place": place}, square_paper, a, n, known)

    def test_right_and_wrong_roots(self):
        for n in range(1, 40):
            for a in range(n):
                for x in range(-2, 2 * n):
                    self.assertIs(is_square_paper(a, n, (x,)), 0 <= x < n and (x * x - a) % n == 0)

    def test_never_both(self):
        for n in range(1, 60):
            for a in range(n):
                papers = [(word, q, k, j, ("tried", q)) for word in ("odd", "power") for q in (2, 3, 5, 7) for k in (1, 2, 3, 4, 5) for j in range(k + 1)]
                papers += [("eight", k, j) for k in range(7) for j in range(7)] + [("sign", sign_sheet(a, n | 1))]
                bars = [paper for paper in papers if is_square_bar(a, n, paper)]
                for paper in bars:
                    self.assertTrue(is_bar(a, n, paper))
                self.assertEqual([paper for paper in papers if is_bar(a, n, paper)], bars)
                if bars:
                    self.assertFalse(any(is_square_paper(a, n, (x,)) for x in range(n)))

    def test_signs_as_bars(self):
        for n in range(1, 50):
            for a in range(n):
                sheet = sign_sheet(a, n) if n % 2 else ((a, n, 1), (1, 3, -1))
                wanted = is_bar(a, n, ("sign", sheet))
                self.assertIs(is_square_bar(a, n, ("sign", sheet)), wanted)
                if wanted:
                    self.assertFalse(any((x * x - a) % n == 0 for x in range(n)))
        # No sheet is one for an even n.
        for a, n, sheet in ((2, 4, ((2, 4, 1), (1, 4, -1))), (3, 8, ((3, 8, 1), (8, 3, 1), (4, 3, -1), (2, 3, 1), (1, 3, -1))), (6, 10, ((6, 10, 1), (3, 10, -1), (10, 3, -1), (1, 3, -1)))):
            self.assertIs(is_square_bar(a, n, ("sign", sheet)), False)
        p = 10 ** 40 - 17
        bars = [a for a in range(2, 30) if is_square_bar(a, p, ("sign", sign_sheet(a, p)))]
        self.assertEqual(bars, [a for a in range(2, 30) if pow(a, p // 2, p) != 1])
        self.assertIs(is_square_bar(bars[0], p, ("sign", sign_sheet(bars[0] + 1, p))), False)

    def test_bars_by_hand(self):
        three = ("tried", 3)
        for a, n, value, right in (
            (3, 9, ("odd", 3, 2, 1, three), True), (3, 9, ("odd", 3, 1, 1, three), False), (3, 9, ("odd", 3, 3, 1, three), False),
            (3, 9, ("odd", 3, 2, 1, ("tried", 5)), False), (3, 27, ("odd", 3, 2, 1, three), True), (3, 18, ("odd", 3, 2, 1, three), True),
            (0, 9, ("odd", 3, 2, 1, three), False), (9, 27, ("odd", 3, 3, 1, three), False), (2, 3, ("power", 3, 1, 0, three), True),
            (1, 3, ("power", 3, 1, 0, three), False), (18, 27, ("power", 3, 3, 2, three), True), (18, 27, ("power", 3, 2, 2, three), False),
            (2, 4, ("odd", 2, 2, 1, ("tried", 2)), True), (3, 4, ("eight", 2, 0), True), (3, 4, ("eight", 1, 0), False), (5, 8, ("eight", 3, 0), True),
            (5, 8, ("eight", 2, 0), False), (12, 16, ("eight", 4, 2), True), (4, 16, ("eight", 4, 2), False), (3, 4, ("power", 2, 2, 0, ("tried", 2)), False),
            (15, 36, ("odd", 9, 1, 0, ("tried", 9)), False), (3, 9, ("odd", 9, 1, 0, ("tried", 9)), False), (2, 9, ("power", 9, 1, 0, ("tried", 9)), False),
            (2, 3, ("power", 3, True, 0, three), False), (2, 3, ("power", 3, 1, False, three), False), (3, 4, ("eight", 2, False), False),
            (2, 3, ("power", -3, 1, 0, three), False), (3, 9, ("odd", 3, 1001, 1, three), False), (2, 3, ("power", 10 ** 400, 1000, 0, three), False),
        ):
            self.assertIs(is_square_bar(a, n, value), right, (a, n, value))
            self.assertIs(is_bar(a, n, value), right, (a, n, value))

    def test_any_value(self):
        for a, n in ((3, 9), (2, 3), (3, 4), (5, 8), (12, 16), (6, 35), (0, 1), (4, 7), (18, 27)):
            word, paper = square_paper(a, n)
            values = list(ANY) + list(changed(paper)) + [paper]
            if n % 2:
                values += list(changed(("sign", sign_sheet(a, n))))
            for value in values:
                self.assertIs(is_square_paper(a, n, value), is_root(a, n, value), (a, n, value))
                self.assertIs(is_square_bar(a, n, value), is_bar(a, n, value), (a, n, value))
            for inner in ANY:
                for value in (
                    (inner,), ("odd", inner, 1, 0, ("tried", 3)), ("odd", 3, inner, 1, ("tried", 3)), ("odd", 3, 2, inner, ("tried", 3)),
                    ("odd", 3, 2, 1, inner), ("power", 3, 1, 0, inner), ("eight", inner, 0), ("eight", 3, inner), ("sign", inner),
                ):
                    self.assertIs(is_square_paper(a, n, value), is_root(a, n, value), (a, n, value))
                    self.assertIs(is_square_bar(a, n, value), is_bar(a, n, value), (a, n, value))

    def test_a_great_paper(self):
        p = soft_prime(39)
        a = next(a for a in range(2, 99) if pow(a, p // 2, p) != 1)
        word, paper = square_paper(a, p)
        self.assertEqual(paper[:4], ("power", p, 1, 0))
        for value in list(changed(paper))[::31]:
            self.assertIs(is_square_bar(a, p, value), is_bar(a, p, value))
