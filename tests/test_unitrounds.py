import itertools
import math
import unittest

from numberpapers.errors import NotFit, NotPaper, NotUnit, TooHard, TooMany
from numberpapers.orders import least_root
from numberpapers.unitrounds import exponents_in, invariants_of, ones_count, ones_of, rounds_of, unit_by
from numberpapers.units import unit_count, unit_exponent
from tests.helpers import refused, some
from tests.judges import P, Q, TOO_HARD, WRONG_KNOWN, factors, order, tried
from tests.unitcases import GREATS, LACKING, NEEDED, STEEP, cases, count_parts, number, ordered, smalls, unit_of

STEPS = {"limit": 10 ** 6}


def rounds(n, parts, known, root_of):
    """The rounds by the words of [59]; root_of tells the least root of an odd prime power."""
    found = []
    for p, k in parts:
        full = p ** k
        if p == 2:
            local = {1: [], 2: [(3, 2)]}.get(k, [(full - 1, 2), (5, 2 ** (k - 2))])
        else:
            local = [(root_of(full, known), full // p * (p - 1))]
        for g, m in local:
            found.append((together(g, full, n // full), m))
    return tuple(found)


def together(g, full, other):
    """The number below full * other that is g modulo full and 1 modulo other."""
    return (1 + other * ((g - 1) * pow(other, -1, full) % full)) % (full * other)


def first_root(full):
    units = [a for a in range(full) if math.gcd(a, full) == 1]
    return next(a for a in units if order(a, full) == len(units))


def steep(parts, known=()):
    """Whether an order of a round has a prime above 10 ** 6."""
    return any(q > 10 ** 6 for _, primes in count_parts(parts, known) for q in primes)


def prime_powers(m):
    return sorted(p ** e for p, e in factors(m))


class Rounds(unittest.TestCase):  # [59]
    def test_small_numbers(self):
        for n, units in smalls():
            parts = factors(n)
            roots = {p ** k: first_root(p ** k) for p, k in parts if p > 2}
            found = rounds_of(n)
            self.assertEqual(found, rounds(n, parts, (), lambda full, known: roots[full]))
            self.assertTrue(all(order(g, n) == m and 0 <= g < n for g, m in found))
            # Each unit is just one product.
            products = {}
            for exponents in itertools.product(*[range(m) for _, m in found]):
                products[math.prod(pow(g, e, n) for (g, _), e in zip(found, exponents)) % n] = exponents
            self.assertEqual(sorted(products), units)
            for a in units:
                self.assertEqual(exponents_in(a, n), products[a])
                self.assertEqual(exponents_in(a - 3 * n, n), products[a])
                self.assertEqual(unit_by(n, products[a]), a)

    def test_edges(self):
        self.assertEqual(rounds_of(2), ())
        self.assertEqual(rounds_of(4), ((3, 2),))
        self.assertEqual(rounds_of(8), ((7, 2), (5, 2)))
        self.assertEqual(rounds_of(16), ((15, 2), (5, 4)))
        self.assertEqual(rounds_of(12), ((7, 2), (5, 2)))
        self.assertEqual(rounds_of(40487 ** 2), ((10, 40487 * 40486),))
        self.assertEqual((exponents_in(1, 2), unit_by(2, ())), ((), 1))

    def test_great_numbers(self):
        source = some(283)
        hard = 0
        for parts, known in cases():
            n = number(parts)
            found = rounds_of(n, known)
            self.assertEqual(found, rounds(n, parts, known, least_root))
            for g, m in found:
                self.assertEqual(ordered(n, parts, known, g), m)
            a, b = unit_of(n, source), unit_of(n, source)
            if steep(parts, known):
                hard += 1
                for unit in (a, 1, -1):
                    refused(self, TooHard, STEPS, exponents_in, unit, n, known)
                continue
            for unit in (a, b, 1, -1, a * b % n):
                exponents = exponents_in(unit, n, known)
                self.assertTrue(all(0 <= e < m for e, (_, m) in zip(exponents, found)))
                self.assertEqual(unit_by(n, exponents, known), unit % n)
            sums = zip(exponents_in(a, n, known), exponents_in(b, n, known), found)
            self.assertEqual(tuple((e + f) % m for e, f, (_, m) in sums), exponents_in(a * b % n, n, known))
        self.assertTrue(3 < hard < len(cases()) - 8)
        # P - 1 and P ** 5 are not steep, STEEP - 1 is.
        self.assertEqual(unit_by(STEEP, (STEEP - 1,)), 1)

    def test_just_below_and_above_10_to_the_6(self):
        below, above = 999983, 1000003
        p = next(k * below + 1 for k in range(2, 999, 2) if len(factors(k * below + 1)) == 1)
        q = next(k * above + 1 for k in range(2, 999, 2) if len(factors(k * above + 1)) == 1)
        for a in (2, -3, 10 ** 41):
            self.assertEqual(unit_by(p, exponents_in(a, p)), a % p)
            refused(self, TooHard, STEPS, exponents_in, a, q)
        # p divides how many units p ** 2 has.
        refused(self, TooHard, STEPS, exponents_in, 2, p ** 2)
        self.assertEqual(unit_by(below ** 2, exponents_in(-5, below ** 2)), below ** 2 - 5)
        refused(self, TooHard, STEPS, exponents_in, 1, above ** 2)
        self.assertEqual(unit_by(above, exponents_in(77, above)), 77)

    def test_products_by_exponents(self):
        source = some(293)
        for n in (7, 8, 24, 360, 1000, 2 ** 132, 3 ** 80):
            found = rounds_of(n)
            for _ in range(20):
                exponents = tuple(source.choice((0, -1, 10 ** 40, -10 ** 40, source.randrange(-99, 99))) for _ in found)
                wanted = math.prod(pow(g, e % m, n) for (g, m), e in zip(found, exponents)) % n
                self.assertEqual(unit_by(n, exponents), wanted)
            for exponents in (found[1:], (0,) * (len(found) + 1), (1,) * (len(found) - 1), (0,) * 50):
                if len(exponents) != len(found):
                    refused(self, NotFit, {}, unit_by, n, (0,) * len(exponents))
        refused(self, NotFit, {}, unit_by, 2, (0,))

    def test_errors(self):
        lacking = LACKING + tuple((parts, ()) for parts, _ in NEEDED)
        for parts, known in lacking:
            n = number(parts)
            for arguments in ((rounds_of, n), (unit_by, n, ()), (unit_by, n, (1,) * 9), (invariants_of, n)):
                refused(self, TooHard, TOO_HARD, *arguments, known)
            refused(self, TooHard, TOO_HARD, exponents_in, -1, n, known)
            refused(self, TooHard, TOO_HARD, ones_count, 2, n, known)
            refused(self, TooHard, TOO_HARD, ones_of, 2, n, known)
            refused(self, NotUnit, {}, exponents_in, n, n, known)
        for known, place in WRONG_KNOWN:
            for n in (7, P * Q):
                for arguments in (
                    (rounds_of, n), (unit_by, n, (1, 2, 3)), (invariants_of, n), (exponents_in, 0, n), (ones_count, 2, n), (ones_of, 2, n),
                ):
                    refused(self, NotPaper, {"place": place}, *arguments, known)
        refused(self, NotUnit, {}, exponents_in, 6, 4)
        refused(self, NotUnit, {}, exponents_in, 0, 2)
        refused(self, NotUnit, {}, exponents_in, STEEP, STEEP)


class Invariants(unittest.TestCase):  # [60]
    def check(self, n, known=()):
        found = invariants_of(n, known)
        self.assertEqual(math.prod(found), unit_count(n, known))
        self.assertEqual(found[-1] if found else 1, unit_exponent(n, known))
        self.assertTrue(all(entry > 1 for entry in found))
        self.assertTrue(all(b % a == 0 for a, b in zip(found, found[1:])))
        return found

    def test_small_numbers(self):
        for n, units in smalls():
            found = self.check(n)
            powers = [q for entry in found for q in prime_powers(entry)]
            self.assertEqual(sorted(powers), sorted(q for _, m in rounds_of(n) for q in prime_powers(m)))
        self.assertEqual(invariants_of(2), ())
        self.assertEqual([invariants_of(n) for n in (3, 4, 5, 8, 24, 35, 63)], [(2,), (2,), (4,), (2, 2), (2, 2, 2), (2, 12), (6, 6)])

    def test_great_numbers(self):
        for parts, known in cases():
            self.check(number(parts), known)


class Ones(unittest.TestCase):  # [60]
    def test_small_numbers(self):
        for n, units in smalls():
            for m in list(range(1, 14)) + [24, 60, 10 ** 40]:
                ones = tuple(a for a in units if pow(a, m, n) == 1)
                self.assertEqual(ones_count(m, n), len(ones))
                self.assertEqual(ones_of(m, n), ones)

    def test_great_numbers(self):
        for parts, known in cases():
            n = number(parts)
            for m in (1, 2, 6, 60, 10 ** 40, 10 ** 40 - 1):
                count = ones_count(m, n, known)
                self.assertEqual(count, math.prod(math.gcd(m, order) for _, order in rounds_of(n, known)))
                if count > 1000:
                    refused(self, TooMany, {"limit": 1000}, ones_of, m, n, known)
                    continue
                ones = ones_of(m, n, known)
                self.assertEqual(len(ones), count)
                self.assertEqual(list(ones), sorted(set(ones)))
                self.assertTrue(all(pow(a, m, n) == 1 and 0 <= a < n for a in ones))
        self.assertGreater(len(GREATS), 10)

    def test_1000_and_more(self):
        n = 5 ** 4 * 8
        self.assertEqual(ones_count(10 ** 40, n), 2000)
        self.assertEqual((ones_count(1000, 5 ** 4 * 4), len(ones_of(1000, 5 ** 4 * 4))), (1000, 1000))
        refused(self, TooMany, {"limit": 1000}, ones_of, 1000, n)
        # 1008 is 1009 - 1.
        self.assertEqual(ones_count(1008, 1009), 1008)
        refused(self, TooMany, {"limit": 1000}, ones_of, 1008, 1009)
        self.assertEqual(len(ones_of(504, 1009)), 504)
        p = next(p for p in range(1001, 10 ** 6, 1000) if len(factors(p)) == 1 and factors(p)[0][1] == 1)
        self.assertEqual(len(ones_of(1000, p)), 1000)
        q = next(q for q in range(1002, 10 ** 6, 1001) if len(factors(q)) == 1 and factors(q)[0][1] == 1)
        self.assertEqual(ones_count(1001, q), 1001)
        refused(self, TooMany, {"limit": 1000}, ones_of, 1001, q)
        refused(self, TooHard, TOO_HARD, ones_of, 10 ** 40, P * Q * 1009, tried(3))
