import unittest

from numberpapers.roots import is_power_paper, power_paper, root, square_root, whole_power
from tests.helpers import ANY, changed, number, row, some, some_row


def primes_upto(most):
    return [p for p in range(2, most + 1) if all(p % d for d in range(2, p))]


def is_right(n, value):
    """Whether a value is a power paper of n, by the words of [22]."""
    primes = primes_upto(len(bin(n)) - 2)
    if type(value) is not tuple or len(value) == 0 or type(value[0]) is not str:
        return False
    if value[0] == "power" and len(value) == 3:
        m, q = value[1:]
        if type(m) is not int or type(q) is not int:
            return False
        return q in primes and 2 <= m <= n and m ** q == n
    if value[0] != "none" or len(value) != 2 or type(value[1]) is not tuple or len(value[1]) != len(primes):
        return False
    for p, pair in zip(primes, value[1]):
        if type(pair) is not tuple or len(pair) != 2 or any(type(x) is not int for x in pair) or pair[0] != p:
            return False
        if not 1 <= pair[1] <= n or not pair[1] ** p < n < (pair[1] + 1) ** p:
            return False
    return True


class Roots(unittest.TestCase):  # [21]
    def check(self, one, k):
        n = number(one)
        s, r = root(one, k)
        self.assertEqual((s, r), (row(number(s), one[0]), row(number(r), one[0])))
        self.assertEqual(number(s) ** k + number(r), n)
        self.assertLess(n, (number(s) + 1) ** k)
        if k == 2:
            self.assertEqual(square_root(one), (s, r))
            self.assertLessEqual(number(r), 2 * number(s))

    def test_small_ones(self):
        for n in range(0, 300):
            for k in (1, 2, 3, 4, 7, 60):
                self.check(row(n, 2 + n % 9), k)

    def test_at_powers(self):
        for s in (1, 2, 3, 10, 255, 256, 257, 10 ** 6, 10 ** 20 - 1):
            for k in (1, 2, 3, 5, 31, 60):
                for n in (s ** k - 1, s ** k, s ** k + 1):
                    self.check(row(n, 10), k)

    def test_4000_digits(self):
        source = some(83)
        for base in (2, 10 ** 6):
            for one in ((base, (base - 1,) * 4000), some_row(source, base, 4000), (base, (0,) * 3999 + (1,))):
                for k in (1, 2, 3, 17, 59, 60):
                    self.check(one, k)
            self.check((base, ()), 2)
            self.check((base, ()), 60)


class PowerPapers(unittest.TestCase):  # [22]
    def test_small_numbers(self):
        powers = {m ** e for m in range(2, 60) for e in range(2, 12)}
        for n in range(2, 3000):
            paper = power_paper(n)
            self.assertTrue(is_right(n, paper), n)
            self.assertIs(is_power_paper(n, paper), True)
            self.assertEqual(paper[0], "power" if n in powers else "none")
            m, e = whole_power(n)
            self.assertEqual(m ** e, n)
            self.assertEqual(e, max(k for k in range(1, 13) if any(b ** k == n for b in ([n] if k == 1 else range(2, 60)))))

    def test_great_numbers(self):
        for n in (10 ** 300, 10 ** 300 - 1, 2 ** 996, 3 ** 628, (10 ** 150 - 1) ** 2, (10 ** 150) ** 2 - 1, 6 ** 385, 7 ** 353):
            paper = power_paper(n)
            self.assertTrue(is_right(n, paper))
            self.assertIs(is_power_paper(n, paper), True)
        self.assertEqual(whole_power(10 ** 300), (10, 300))
        self.assertEqual(whole_power(2 ** 996), (2, 996))
        self.assertEqual(whole_power((10 ** 150 - 1) ** 2), (10 ** 150 - 1, 2))
        self.assertEqual(whole_power(7 ** 353), (7, 353))
        self.assertEqual(whole_power(10 ** 300 - 1), (10 ** 300 - 1, 1))
        self.assertEqual(whole_power(2), (2, 1))

    def test_both_kinds_never(self):
        for n in range(2, 200):
            powers = [("power", m, q) for m in range(2, 20) for q in range(2, 9)]
            primes = primes_upto(n.bit_length())
            floors = ("none", tuple((q, max(m for m in range(1, n + 1) if m ** q <= n)) for q in primes))
            first = [paper for paper in powers if is_power_paper(n, paper)]
            self.assertIs(is_power_paper(n, floors), not first, n)
            below = ("none", tuple((q, max(m for m in range(0, n + 1) if m == 0 or m ** q < n)) for q in primes))
            self.assertIs(is_power_paper(n, below), not first, n)
            self.assertIs(is_power_paper(n, ("none", tuple((q, m - 1) for q, m in below[1]))), False)

    def test_any_value(self):
        for n in (2, 3, 4, 10, 64, 81, 100, 1000, 1001, 10 ** 12):
            for value in list(ANY) + list(changed(power_paper(n))) + [("power", n, 1), ("power", 1, 2), ("power", -2, 2)]:
                self.assertIs(is_power_paper(n, value), is_right(n, value), (n, value))
        self.assertIs(is_power_paper(64, ("power", 2, 6)), False)
        self.assertIs(is_power_paper(64, ("power", 8, 2)), True)
        self.assertIs(is_power_paper(64, ("power", 4, 3)), True)
        self.assertIs(is_power_paper(64, ("power", -8, 2)), False)
        self.assertIs(is_power_paper(10 ** 300 - 1, ("power", 10 ** 400, 997)), False)
