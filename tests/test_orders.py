import math
import unittest

from numberpapers.errors import NoRoot, NotPaper, NotUnit, TooHard
from numberpapers.orders import least_root, order_denial, order_of, order_paper
from numberpapers.units import unit_exponent
from tests.hard import HARD, HARD_PAPER
from tests.helpers import refused, some
from tests.judges import KNOWN, P, Q, TOO_HARD, WRONG_KNOWN, is_order_row, order, told_by, tried
from tests.primes import is_prime
from tests.unitcases import GREATS, LACKING, NEEDED, cases, count_parts, number, ordered, smalls, unit_of


def right_denial(a, n, d, value):
    """Whether a value is a paper of "not" of ("order", a, n, d)."""
    if value == ("far",):
        return pow(a, d, n) != 1
    word, q = value
    return word == "short" and 2 <= q <= d and d % q == 0 and pow(a, d // q, n) == 1


class Orders(unittest.TestCase):  # [55], [57]
    def test_small_numbers(self):
        for n, units in smalls():
            for a in units[:60]:
                d = order(a, n)
                self.assertEqual(order_of(a, n), d)
                self.assertEqual(order_of(a - 7 * n, n), d)
                self.assertTrue(is_order_row(a, n, d, order_paper(a, n)), (a, n))
        self.assertEqual(order_paper(1, 2), ())
        self.assertEqual(order_paper(-1, 3), ((2, 1, ("tried", 2)),))

    def test_great_numbers(self):
        source = some(281)
        for parts, known in cases():
            n = number(parts)
            for a in (1, -1, unit_of(n, source), unit_of(n, source), 10 ** 41 if n % 2 and n % 5 else 1 - n, -(10 ** 41) + 1):
                if math.gcd(a, n) > 1:
                    continue
                d = ordered(n, parts, known, a)
                self.assertEqual(order_of(a, n, known), d)
                self.assertTrue(is_order_row(a % n, n, d, order_paper(a, n, known)))
                self.assertEqual(unit_exponent(n, known) % d, 0)
                if told_by(d, [q for q, _ in known]):
                    self.assertIsNone(order_denial(a, n, d, known))
                else:
                    refused(self, TooHard, TOO_HARD, order_denial, a, n, d, known)

    def test_what_is_no_unit(self):
        for a, n in ((0, 2), (2, 4), (-6, 9), (0, 10 ** 40), (10 ** 41, 10 ** 40), (3 * P, P * Q), (0, HARD)):
            for function in (order_of, order_paper):
                refused(self, NotUnit, {}, function, a, n)
                refused(self, NotUnit, {}, function, a, n, tried(2))
                for known, place in WRONG_KNOWN:
                    refused(self, NotPaper, {"place": place}, function, a, n, known)

    def test_what_is_not_told(self):
        for parts, known in LACKING + tuple((parts, ()) for parts, _ in NEEDED):
            for a in (1, 2, -1):
                if math.gcd(a, number(parts)) == 1:
                    for function in (order_of, order_paper):
                        refused(self, TooHard, TOO_HARD, function, a, number(parts), known)


class Denials(unittest.TestCase):  # [57]
    def check(self, a, n, d, known=()):
        value = order_denial(a, n, d, known)
        if math.gcd(a, n) == 1 and pow(a, d, n) == 1 and (n > 10 ** 4 or order(a, n) == d):
            self.assertTrue(value is None or right_denial(a, n, d, value))
        else:
            self.assertTrue(right_denial(a, n, d, value))
        return value

    def test_small_numbers(self):
        for n in range(2, 40):
            for a in range(-n - 3, n + 3):
                for d in range(1, 45):
                    value = self.check(a, n, d)
                    self.assertIs(value is None, math.gcd(a, n) == 1 and order(a, n) == d)

    def test_edges(self):
        self.assertIsNone(order_denial(1, 2, 1))
        self.assertEqual(order_denial(0, 2, 1), ("far",))
        self.assertEqual(order_denial(10 ** 41, 10 ** 40, 10 ** 40), ("far",))
        self.assertEqual(self.check(1, 10 ** 40, 10 ** 40)[0], "short")
        self.assertEqual(self.check(1, 7, 10 ** 40)[0], "short")
        self.assertEqual(self.check(3, 7, 12), ("short", 2))
        self.assertEqual(self.check(-1, 10 ** 40, 2), None)
        self.assertEqual(order_denial(2, 7, 1), ("far",))
        self.assertEqual(self.check(-(10 ** 41) + 1, 10, 1), None)

    def test_too_hard_only_where_the_power_is_1(self):
        hard = P * Q
        for a, n in ((1, 7), (8, 7), (1, 2), (1, 10 ** 40), (1, hard)):
            refused(self, TooHard, TOO_HARD, order_denial, a, n, hard)
            refused(self, TooHard, TOO_HARD, order_denial, a, n, hard, tried(2, 3))
            self.assertEqual(order_denial(a, n, hard, tried(P)), ("short", P))
        for a, n in ((2, 7), (0, 7), (0, hard), (P, hard), (3, hard)):
            if pow(a, hard, n) != 1:
                self.assertEqual(order_denial(a, n, hard), ("far",))
        # n need not be told, nor what is less by 1 than its primes.
        for a, d in ((-1, 2), (1, 1)):
            self.assertIsNone(order_denial(a, P * Q, d))
            self.assertIsNone(order_denial(a, HARD, d))
        self.assertEqual(order_denial(0, HARD, 4), ("far",))
        refused(self, TooHard, TOO_HARD, order_denial, 2, HARD, HARD - 1)
        self.assertIs(order_denial(2, HARD, HARD - 1, KNOWN) is None, order_of(2, HARD, tried(P) + ((HARD, HARD_PAPER),)) == HARD - 1)

    def test_wrong_papers_come_first(self):
        for known, place in WRONG_KNOWN:
            for a, n, d in ((2, 7, 3), (0, 7, 1), (1, 7, P * Q)):
                refused(self, NotPaper, {"place": place}, order_denial, a, n, d, known)


class Roots(unittest.TestCase):  # [58]
    def test_small_numbers(self):
        for n, units in smalls():
            roots = [a for a in units if order(a, n) == len(units)]
            powers = [2, 4] + [t * p ** k for t in (1, 2) for p in range(3, n + 1, 2) for k in range(1, 8) if is_prime(p)]
            self.assertIs(bool(roots), n in powers)
            if roots:
                self.assertEqual(least_root(n), roots[0])
            else:
                refused(self, NoRoot, {}, least_root, n)

    def test_edges(self):
        self.assertEqual([least_root(n) for n in (2, 3, 4, 5, 6, 7, 9, 18, 41, 191)], [1, 2, 3, 2, 5, 3, 2, 5, 6, 19])
        # 5 is the least root of 40487, but none of its square.
        self.assertEqual((least_root(40487), least_root(40487 ** 2)), (5, 10))
        self.assertEqual(least_root(2 * 40487), 5)
        self.assertGreater(least_root(2 * 40487 ** 2), 10)
        for n in (8, 16, 12, 15, 21, 2 ** 132, 10 ** 40, 4 * 3 ** 80, 8 * 3, 3 * 5, 2 * 3 * 5):
            refused(self, NoRoot, {}, least_root, n)

    def test_great_numbers(self):
        for parts, known in cases():
            n = number(parts)
            odd = [part for part in parts if part[0] > 2]
            twos = sum(k for p, k in parts if p == 2)
            if (len(odd), twos) not in ((1, 0), (1, 1), (0, 1), (0, 2)):
                refused(self, NoRoot, {}, least_root, n, known)
                continue
            g = least_root(n, known)
            counts = count_parts(parts, known)
            count = math.prod(c for c, _ in counts)
            primes = {q for _, some_primes in counts for q in some_primes}
            full = [a for a in range(1, g + 1) if math.gcd(a, n) == 1 and all(pow(a, count // q, n) != 1 for q in primes)]
            self.assertEqual(full, [g])
        self.assertGreater(len(GREATS), 10)

    def test_errors(self):
        for parts, known in LACKING:
            refused(self, TooHard, TOO_HARD, least_root, number(parts), known)
            refused(self, TooHard, TOO_HARD, least_root, 8 * number(parts), known)
        for known, place in WRONG_KNOWN:
            for n in (7, 8, P * Q):
                refused(self, NotPaper, {"place": place}, least_root, n, known)
        self.assertEqual(Q - P, 16)
