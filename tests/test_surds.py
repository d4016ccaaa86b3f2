import math
import unittest
from fractions import Fraction

from numberpapers.errors import IsSquare, TooMany
from numberpapers.rivers import river
from numberpapers.surds import surd_chain, surd_row
from tests.helpers import refused, some

MOST = {"limit": 5000}


def chain_by_floors(N, count):
    """The first entries of the chain of the root of N, by the greatest integers below whole ratios of very great numbers."""
    scale = 10 ** (12 * count + 40)
    a, b = math.isqrt(N * scale * scale), scale
    found = []
    for _ in range(count):
        found.append(a // b)
        a, b = b, a % b
    return found


def is_shortest(head, period):
    """Whether no shorter head and no shorter period stand for the same chain."""
    size = len(period)
    again = any(size % d == 0 and period[:d] * (size // d) == period for d in range(1, size))
    return not again and (not head or head[-1] != period[-1])


def is_chain(P, Q, N, head, period):
    """Whether a chain is that of (P + the root of N) / Q, told by the equation that its number solves."""
    a, b, c, d = 1, 0, 0, 1
    for q in period:
        a, b, c, d = a * q + b, a, c * q + d, c
    p, r, s, t = 1, 0, 0, 1
    for q in head:
        p, r, s, t = p * q + r, p, s * q + t, s
    # The period's number y solves c y y + (d - a) y - b = 0, and the number itself is (p y + r) / (s y + t).
    whole, part = Fraction(P, Q), Fraction(1, Q)

    def times(x, y):
        return (x[0] * y[0] + x[1] * y[1] * N, x[0] * y[1] + x[1] * y[0])

    top = (r - t * whole, -t * part)
    below = (s * whole - p, s * part)
    norm = below[0] ** 2 - below[1] ** 2 * N
    y = times(top, (below[0] / norm, -below[1] / norm))
    square = times(y, y)
    zero = (c * square[0] + (d - a) * y[0] - b, c * square[1] + (d - a) * y[1])
    # Above 1, as it is the greater root: its conjugate is below 0.
    return zero == (0, 0) and y[1] != 0 and (y[0] > 0 or y[1] > 0) and all(q >= 1 for q in period + head[1:]) and is_above_one(y, N)


def is_above_one(y, N):
    whole, part = y[0] - 1, y[1]
    if whole >= 0 and part >= 0:
        return True
    if whole < 0 and part < 0:
        return False
    return (whole ** 2 > part ** 2 * N) == (whole > 0)


LONG = ((4151359, 5000), (6074209, 5001), (4214851, 5002))
LONG_ROWS = (((127981, -38, 180847), 4999), ((-763243, -55, 49702), 5000), ((-732217, 50, 136492), 5001))


class Chains(unittest.TestCase):  # [90]
    def check(self, N):
        head, period = surd_chain(N)
        self.assertEqual(head, math.isqrt(N))
        self.assertEqual(period[-1], 2 * head)
        self.assertEqual(period[:-1], period[:-1][::-1])
        self.assertTrue(is_shortest((head,), period))
        if len(period) < 60:
            self.assertTrue(is_chain(0, 1, N, (head,), period), N)
        return period

    def test_small_numbers(self):
        for N in range(2, 300):
            root = math.isqrt(N)
            if root * root == N:
                refused(self, IsSquare, {"root": root}, surd_chain, N)
                continue
            period = self.check(N)
            entries = [root] + list(period) * (20 // len(period) + 1)
            self.assertEqual(chain_by_floors(N, 20), entries[:20])

    def test_by_hand(self):
        for N, wanted in ((2, (1, (2,))), (3, (1, (1, 2))), (7, (2, (1, 1, 1, 4))), (13, (3, (1, 1, 1, 1, 6))), (10 ** 12 - 1, (999999, (1, 1999998)))):
            self.assertEqual(surd_chain(N), wanted)

    def test_great_numbers(self):
        source = some(557)
        counts = {}
        for N in [10 ** 12, 10 ** 12 - 1, 10 ** 12 - 2, 999999 ** 2, 999999 ** 2 + 1, 999999 ** 2 - 1] + [source.randrange(2, 10 ** 12) for _ in range(20)] + [source.randrange(2, 10 ** 6) for _ in range(60)]:
            root = math.isqrt(N)
            if root * root == N:
                refused(self, IsSquare, {"root": root}, surd_chain, N)
                continue
            size = self.size(N)
            if size > 5000:
                refused(self, TooMany, MOST, surd_chain, N)
            else:
                self.assertEqual(len(self.check(N)), size)
            counts[size > 5000] = counts.get(size > 5000, 0) + 1
        self.assertEqual(set(counts), {True, False})

    def size(self, N):
        """How many entries the period has, or 5001 if more than 5,000."""
        root, m, d, a, count = math.isqrt(N), 0, 1, math.isqrt(N), 0
        while count <= 5000:
            m = d * a - m
            d = (N - m * m) // d
            a, count = (root + m) // d, count + 1
            if d == 1:
                return count
        return count

    def test_how_long_periods_may_be(self):
        for N, count in LONG:
            self.assertEqual(self.size(N), min(count, 5001))
            if count > 5000:
                refused(self, TooMany, MOST, surd_chain, N)
            else:
                self.assertEqual(len(self.check(N)), count)

    def test_letters(self):
        for N in range(2, 200):
            head = math.isqrt(N)
            if head * head != N:
                _, period = surd_chain(N)
                entries = (head,) + period * 2
                letters = river((1, 0, -N))[0]
                text = "".join("rl"[k % 2] * q for k, q in enumerate(entries))
                again = letters * (len(text) // len(letters) + 1)
                self.assertEqual(again[:len(text)], text)


class Rows(unittest.TestCase):  # [90]
    def check(self, P, Q, N):
        head, period = surd_row(P, Q, N)
        self.assertTrue(is_shortest(head, period), (P, Q, N))
        if len(period) + len(head) < 80:
            self.assertTrue(is_chain(P, Q, N, head, period), (P, Q, N, head, period))
        return (head, period)

    def test_small_numbers(self):
        for N in (2, 3, 5, 7, 12, 13, 40, 61):
            for P in range(-7, 8):
                for Q in list(range(-7, 0)) + list(range(1, 8)):
                    self.check(P, Q, N)

    def test_by_hand(self):
        self.assertEqual(self.check(1, 2, 5), ((), (1,)))
        self.assertEqual(self.check(0, 1, 2), ((1,), (2,)))
        self.assertEqual(self.check(1, 1, 2), ((), (2,)))
        self.assertEqual(self.check(0, -1, 2), ((-2, 1, 1), (2,)))
        self.assertEqual(self.check(-7, 1, 2)[0][0], -6)
        for N in range(2, 60):
            if math.isqrt(N) ** 2 != N:
                head, period = surd_chain(N)
                self.assertEqual(surd_row(0, 1, N), ((head,), period))

    def test_great_numbers(self):
        source = some(563)
        for _ in range(120):
            P, Q = source.randrange(-10 ** 6, 10 ** 6 + 1), source.choice((1, -1)) * source.randrange(1, 10 ** source.randrange(1, 7))
            N = source.randrange(2, 10 ** source.randrange(1, 7))
            if math.isqrt(N) ** 2 == N:
                refused(self, IsSquare, {"root": math.isqrt(N)}, surd_row, P, Q, N)
                continue
            try:
                self.check(P, Q, N)
            except TooMany as error:
                self.assertEqual(error.limit, 5000)
        for P in (10 ** 6, -10 ** 6):
            for Q in (10 ** 3, -(10 ** 3), 1, -1):
                self.check(P, Q, 10 ** 6 - 1)
                self.check(P, Q, 2)

    def test_how_long_they_may_be(self):
        for (P, Q, N), count in LONG_ROWS:
            if count > 5000:
                refused(self, TooMany, MOST, surd_row, P, Q, N)
            else:
                head, period = surd_row(P, Q, N)
                self.assertEqual(len(head) + len(period), count)
                self.assertTrue(is_shortest(head, period))

    def test_squares(self):
        for root in (2, 3, 10, 1000):
            for P, Q in ((0, 1), (-5, 7), (10 ** 6, -10 ** 6)):
                refused(self, IsSquare, {"root": root}, surd_row, P, Q, root * root)
