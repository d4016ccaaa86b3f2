import math
import unittest

from numberpapers.errors import Barred, Clash, NoUnit, TooWide
from numberpapers.rests import (
    bar_of, fraction_of, greatest_bill, is_bar, line, payable, together, unit_inverse, ways,
)
from tests.helpers import ANY, changed, refused, some


class Together(unittest.TestCase):  # [28]
    def test_small_rows(self):
        source = some(107)
        for _ in range(1500):
            size = source.randrange(1, 5)
            pairs = tuple((source.randrange(-30, 30), source.randrange(1, 13)) for _ in range(size))
            M = math.lcm(*[m for _, m in pairs])
            fits = [x for x in range(M) if all((x - r) % m == 0 for r, m in pairs)]
            if fits:
                self.assertEqual(together(pairs), (fits[0], M))
                self.assertEqual(len(fits), 1)
                continue
            first = min(
                (i, j) for i in range(size) for j in range(i + 1, size)
                if (pairs[i][0] - pairs[j][0]) % math.gcd(pairs[i][1], pairs[j][1])
            )
            refused(self, Clash, {"one": first[0], "other": first[1]}, together, pairs)

    def test_40_pairs(self):
        source = some(109)
        x = source.randrange(10 ** 400)
        moduli = [source.randrange(1, 10 ** 40) for _ in range(38)] + [10 ** 40, 1]
        pairs = tuple((x % m + m * source.randrange(-3, 3), m) for m in moduli)
        M = math.lcm(*moduli)
        self.assertEqual(together(pairs), (x % M, M))
        wrong = pairs[:39] + ((x + 1, 10 ** 40),)
        clash = next((i, 39) for i in range(39) if math.gcd(moduli[i], 10 ** 40) > 1)
        refused(self, Clash, {"one": clash[0], "other": clash[1]}, together, wrong)
        self.assertEqual(together(((-1, 1),)), (0, 1))
        self.assertEqual(together(((-(10 ** 399), 10 ** 40),)), (-(10 ** 399) % 10 ** 40, 10 ** 40))

    def test_the_least_pair(self):
        refused(self, Clash, {"one": 0, "other": 3}, together, ((0, 4), (1, 3), (0, 2), (1, 2), (2, 3)))
        refused(self, Clash, {"one": 1, "other": 2}, together, ((0, 5), (1, 4), (3, 4), (1, 4)))

    def test_inverses(self):
        for m in range(1, 60):
            for a in range(-70, 70):
                g = math.gcd(a, m)
                if g > 1:
                    refused(self, NoUnit, {"common": g}, unit_inverse, a, m)
                else:
                    x = unit_inverse(a, m)
                    self.assertTrue(0 <= x < m and (a * x - 1) % m == 0)
        self.assertEqual(unit_inverse(0, 1), 0)
        m = 10 ** 399 + 7
        self.assertEqual(unit_inverse(m + 3, m) * 3 % m, 1)
        refused(self, NoUnit, {"common": 10 ** 399}, unit_inverse, 0, 10 ** 399)


class Lines(unittest.TestCase):  # [29]
    def test_lines(self):
        for a in range(-9, 10):
            for b in range(-9, 10):
                for c in range(-20, 21):
                    if a or b:
                        self.check(a, b, c)

    def check(self, a, b, c):
        g = math.gcd(a, b)
        if c % g:
            refused(self, Barred, {"common": g}, line, a, b, c)
            return
        x, y, dx, dy = line(a, b, c)
        self.assertEqual(a * x + b * y, c)
        self.assertEqual(a * dx + b * dy, 0)
        if b == 0:
            self.assertEqual((y, dx, dy), (0, 0, 1))
        else:
            self.assertEqual(dx, abs(b) // g)
            self.assertTrue(0 <= x < dx)

    def test_great_lines(self):
        source = some(113)
        for _ in range(40):
            a, b, c = (source.randrange(-10 ** 399, 10 ** 399) for _ in range(3))
            self.check(a, b, c)
            self.check(a, b, c * math.gcd(a, b))
        refused(self, Barred, {"common": 10 ** 399}, line, 10 ** 399, 0, 5)
        refused(self, Barred, {"common": 6}, line, 12, -18, 9)

    def test_bills(self):
        for a in range(1, 14):
            for b in range(1, 14):
                most = a * b - a - b
                for c in range(0, 190):
                    pairs = [(x, (c - a * x) // b) for x in range(c // a + 1) if (c - a * x) % b == 0]
                    self.assertEqual(payable(a, b, c), pairs[0] if pairs else None)
                    self.assertEqual(ways(a, b, c), len(pairs))
                    if math.gcd(a, b) == 1:
                        if c > most:
                            self.assertIsNotNone(payable(a, b, c))
                        elif most - c >= 0:
                            self.assertNotEqual(payable(a, b, c) is None, payable(a, b, most - c) is None)
                self.assertEqual(greatest_bill(a, b), most if math.gcd(a, b) == 1 else None)

    def test_great_bills(self):
        a, b = 10 ** 40, 10 ** 40 - 1
        self.assertEqual(greatest_bill(a, b), a * b - a - b)
        self.assertEqual(payable(a, b, 10 ** 40), (1, 0))
        self.assertEqual(payable(a, b, 0), (0, 0))
        self.assertIsNone(payable(a, b, 10 ** 40 - 2))
        self.assertEqual(ways(a, b, 0), 1)
        self.assertEqual(ways(1, 1, 10 ** 40), 10 ** 40 + 1)
        self.assertEqual(ways(2, 4, 10 ** 40), 10 ** 40 // 4 + 1)
        self.assertEqual(ways(2, 4, 7), 0)
        self.assertIsNone(greatest_bill(10 ** 40, 10 ** 40))
        self.assertEqual(greatest_bill(1, 10 ** 40), -1)
        self.assertEqual(payable(3, 5, 10 ** 40)[0] % 5, 10 ** 40 * 2 % 5)


def bar_is_right(r, m, t, u, value):
    """Whether a value is a bar, by the words of [30]."""
    if type(value) is not tuple or len(value) != 2:
        return False
    for pair in value:
        if type(pair) is not tuple or len(pair) != 2 or any(type(x) is not int for x in pair):
            return False
    (R, T), (S, V) = value
    return all([
        (R - T * r) % m == 0, (S - V * r) % m == 0, abs(R * V - S * T) == m, R > t, S >= 0, abs(V) > u, T * V <= 0,
    ])


class GoodPairs(unittest.TestCase):  # [30]
    def test_small_moduli(self):
        for m in range(1, 32):
            for r in range(m):
                for t in range(0, 9):
                    for u in range(1, 9):
                        self.check(r, m, t, u)

    def check(self, r, m, t, u):
        if 2 * t * u >= m:
            for function in (fraction_of, bar_of):
                refused(self, TooWide, {"limit": m}, function, r, m, t, u)
            refused(self, TooWide, {"limit": m}, is_bar, r, m, t, u, None)
            return
        good = [(p, q) for q in range(1, u + 1) for p in range(-t, t + 1) if (p - q * r) % m == 0]
        found, bar = fraction_of(r, m, t, u), bar_of(r, m, t, u)
        if good:
            self.assertEqual(found, good[0])
            self.assertIsNone(bar)
            for p, q in good:
                self.assertEqual(q % found[1], 0)
                self.assertEqual(p, found[0] * (q // found[1]))
        else:
            self.assertIsNone(found)
            self.assertTrue(bar_is_right(r, m, t, u, bar))
            self.assertIs(is_bar(r, m, t, u, bar), True)

    def test_no_bar_where_a_good_pair_is(self):
        for m in range(2, 12):
            for r in range(m):
                for t, u in ((0, 1), (1, 1), (1, 2), (2, 1), (0, 4), (0, m - 1), (0, m)):
                    if 2 * t * u >= m or fraction_of(r, m, t, u) is None:
                        continue
                    span = range(-6, 7)
                    for R in range(t + 1, 8):
                        for T in span:
                            for S in range(0, 6):
                                for V in span:
                                    self.assertIs(is_bar(r, m, t, u, ((R, T), (S, V))), False)

    def test_just_below_the_width(self):
        # 2 t u just below m, and m itself.
        refused(self, TooWide, {"limit": 12}, fraction_of, 5, 12, 2, 3)
        self.check(5, 13, 2, 3)
        refused(self, TooWide, {"limit": 12}, is_bar, 5, 12, 2, 3, ((13, 0), (0, 1)))
        refused(self, TooWide, {"limit": 1}, bar_of, 0, 1, 1, 1)
        self.assertEqual(fraction_of(0, 1, 0, 1), (0, 1))

    def test_great_moduli(self):
        source = some(127)
        counts = [0, 0]
        m = 10 ** 200
        for t in (0, 1, 10 ** 99, 7 * 10 ** 99, 10 ** 150):
            u = max(1, (m - 1) // (2 * t)) if t else m - 1
            self.assertLess(2 * t * u, m)
            for _ in range(12):
                p, q = source.randrange(-t, t + 1), source.randrange(1, u + 1)
                if math.gcd(q, m) == 1:
                    r = p * pow(q, -1, m) % m
                    g = math.gcd(p, q)
                    self.assertEqual(fraction_of(r, m, t, u), (p // g, q // g))
                    self.assertIsNone(bar_of(r, m, t, u))
                r = source.randrange(m)
                found, bar = fraction_of(r, m, t, u), bar_of(r, m, t, u)
                self.assertNotEqual(found is None, bar is None)
                counts[found is None] += 1
                if bar is not None:
                    self.assertIs(is_bar(r, m, t, u, bar), True)
        self.assertTrue(all(counts))

    def test_any_value(self):
        for r, m, t, u in ((5, 101, 3, 4), (40, 97, 2, 3), (0, 7, 0, 1), (38, 97, 1, 2)):
            bar = bar_of(r, m, t, u)
            values = list(ANY)
            if bar is not None:
                values += list(changed(bar)) + [bar]
            for value in values:
                self.assertIs(is_bar(r, m, t, u, value), bar_is_right(r, m, t, u, value), value)
