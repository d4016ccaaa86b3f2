import math
import unittest

from numberpapers.errors import NotPaper, NotProper, NotRoot, TooHard, TooMany
from numberpapers.twosquares import (
    all_two, count_proper, count_two, from_root, is_two_paper, to_root, two_paper,
)
from tests.hard import CASES, HARD, HARD_PAPER
from tests.helpers import ANY, changed, refused, some
from tests.judges import P, Q, TOO_HARD, WRONG_KNOWN, factors, is_two, told_by, tried
from tests.primes import PRIMES
from tests.test_primepapers import GREAT_PAPERS
from tests.unitcases import GREATS, number


def ways(n):
    """All ways of n, signs and sequence counted."""
    most = math.isqrt(n)
    found = []
    for x in range(-most, most + 1):
        y = math.isqrt(n - x * x)
        if x * x + y * y == n:
            found += [(x, y), (x, -y)]
    return sorted(set(found))


class TwoPapers(unittest.TestCase):  # [71]
    def check(self, n, known=None):
        paper = two_paper(n) if known is None else two_paper(n, known)
        self.assertTrue(is_two(n, paper), (n, paper))
        self.assertIs(is_two_paper(n, paper), True)
        return paper[0]

    def test_small_numbers(self):
        squares = {x * x for x in range(60)}
        for n in range(0, 1500):
            self.assertIs(self.check(n) == "is", any(n - s in squares for s in squares))
        self.assertEqual([two_paper(n) for n in (0, 1, 2, 5)], [("is", (0, 0)), ("is", (0, 1)), ("is", (1, 1)), ("is", (1, 2))])
        self.assertEqual(two_paper(3), ("not", (3, 1, ("tried", 3))))

    def test_e_odd_and_even(self):
        for p in (3, 7, 11, 99991):
            for e in range(0, 8):
                for k in (1, 2, 5, 50):
                    if k * p ** e <= 10 ** 40:
                        self.assertEqual(self.check(k * p ** e), "not" if e % 2 else "is")

    def test_great_numbers(self):
        source = some(353)
        for parts in GREATS:
            n = number(parts)
            self.assertEqual(self.check(n) == "is", all(e % 2 == 0 for p, e in parts if p % 4 == 3))
        words = set()
        for n in [10 ** 40 - k for k in range(12)] + [source.randrange(10 ** 40) for _ in range(12)] + [source.randrange(10 ** 12) for _ in range(12)]:
            if told_by(n, ()):
                words.add(self.check(n))
            else:
                refused(self, TooHard, TOO_HARD, two_paper, n)
                words.add("hard")
        self.assertEqual(words, {"is", "not", "hard"})
        self.assertEqual(two_paper(10 ** 40)[0], "is")

    def test_known(self):
        for n, enough, more in CASES:
            if n <= 10 ** 40:
                refused(self, TooHard, TOO_HARD, two_paper, n)
                refused(self, TooHard, TOO_HARD, two_paper, n, tried(2, 3))
                for known in (enough, more):
                    self.check(n, known)
        # What is less by 1 than a prime of n need not be told.
        self.check(HARD, ((HARD, HARD_PAPER),))
        self.assertEqual(self.check(0, tried(2)), "is")

    def test_wrong_papers_come_first(self):
        for known, place in WRONG_KNOWN:
            for n in (0, 1, 3, P * Q):
                refused(self, NotPaper, {"place": place}, two_paper, n, known)

    def test_by_hand(self):
        three = ("tried", 3)
        for n, value, right in (
            (25, ("is", (0, 5)), True), (25, ("is", (3, 4)), True), (25, ("is", (4, 3)), False), (25, ("is", (-3, 4)), False), (25, ("is", (-3, -4)), False), (1, ("is", (-1, 0)), False), (2, ("is", (-1, 1)), False), (2, ("is", (-1, -1)), False),
           
            (0, ("is", (0, 0)), True), (0, ("not", (3, 1, three)), False), (3, ("not", (3, 1, three)), True), (9, ("not", (3, 1, three)), False),
            (9, ("not", (3, 2, three)), False), (27, ("not", (3, 3, three)), True), (27, ("not", (3, 1, three)), False), (15, ("not", (15, 1, ("tried", 15))), False),
            (6, ("not", (3, 1, three)), True), (5, ("not", (5, 1, ("tried", 5))), False), (6, ("not", (2, 1, ("tried", 2))), False), (3, ("not", (3, True, three)), False),
            (3, ("not", (3, 1, ("tried", 7))), False), (1, ("is", (0, True)), False), (3, ("not", (-3, 1, three)), False), (7, ("not", (3, 1, three)), False),
            (3, ("not", (3, 1001, three)), False), (7 ** 3, ("not", (10 ** 400 + 3, 999, three)), False),
        ):
            self.assertIs(is_two_paper(n, value), right, (n, value))
            self.assertIs(is_two(n, value), right)

    def test_never_both(self):
        for n in range(0, 250):
            bars = [(p, e) for p in PRIMES[:60] for e in range(1, 9) if is_two_paper(n, ("not", (p, e, ("tried", p))))]
            sums = [(x, y) for x in range(17) for y in range(17) if is_two_paper(n, ("is", (x, y)))]
            self.assertNotEqual(bool(bars), bool(sums))

    def test_any_value(self):
        for n in (0, 1, 3, 25, 27, 49, 10 ** 300):
            values = list(ANY)
            if n < 10 ** 40:
                values += list(changed(two_paper(n))) + [two_paper(n)]
            for inner in ANY:
                values += [("is", inner), ("not", inner), ("is", (inner, 5)), ("is", (0, inner)), ("not", (inner, 1, ("tried", 3)))]
                values += [("not", (3, inner, ("tried", 3))), ("not", (3, 1, inner))]
            for value in values:
                self.assertIs(is_two_paper(n, value), is_two(n, value), (n, value))

    def test_near_10_to_the_300(self):
        x, y = 10 ** 149 + 77, 9 * 10 ** 149 + 5
        n = x * x + y * y
        self.assertIs(is_two_paper(n, ("is", (x, y))), True)
        self.assertIs(is_two_paper(n, ("is", (x, y + 1))), False)
        for p, paper in GREAT_PAPERS[1:]:
            for e in (1, 2, 3):
                for n in (p ** e, 4 * p, 10 ** 299):
                    if n <= 10 ** 300:
                        value = ("not", (p, e, paper))
                        self.assertIs(is_two_paper(n, value), is_two(n, value))
        self.assertTrue(any(p % 4 == 3 for p, _ in GREAT_PAPERS[1:]))


class RootsAndWays(unittest.TestCase):  # [72]
    def check(self, n, r):
        if (r * r + 1) % n:
            refused(self, NotRoot, {}, from_root, n, r)
            return False
        x, y = way = from_root(n, r)
        self.assertIs(type(way), tuple)
        self.assertEqual((x * x + y * y, (x - r * y) % n, math.gcd(x, y)), (n, 0, 1))
        for a, b in ((x, y), (-y, x), (-x, -y), (y, -x)):
            self.assertEqual(to_root(n, a, b), r)
        return True

    def test_small_numbers(self):
        for n in range(1, 300):
            found = [r for r in range(n) if self.check(n, r)]
            proper = [(x, y) for x, y in ways(n) if math.gcd(x, y) == 1]
            self.assertEqual(len(proper), 4 * len(found))
            self.assertEqual(sorted({to_root(n, x, y) for x, y in proper}), found)
        self.assertEqual(to_root(1, 0, -1), 0)
        self.assertEqual(to_root(1, 1, 0), 0)

    def test_what_is_no_proper_way(self):
        for n in range(1, 60):
            for x in range(-8, 9):
                for y in range(-8, 9):
                    if x * x + y * y != n or math.gcd(x, y) != 1:
                        refused(self, NotProper, {}, to_root, n, x, y)
        refused(self, NotProper, {}, to_root, 10 ** 300, 10 ** 150, 0)
        refused(self, NotProper, {}, to_root, 10 ** 300, 10 ** 300, -(10 ** 300))
        refused(self, NotProper, {}, to_root, 1, 0, 0)

    def test_great_numbers(self):
        for n in (10 ** 40, 10 ** 300, 10 ** 300 - 1):
            for r in (0, 1, n - 1, n // 2):
                refused(self, NotRoot, {}, from_root, n, r)
        x, y = 10 ** 149 + 77, 9 * 10 ** 149 + 2
        while math.gcd(x, y) > 1:
            y += 1
        n = x * x + y * y
        r = to_root(n, x, y)
        self.assertTrue(self.check(n, r))
        self.assertTrue(self.check(n, n - r))
        self.assertEqual(sorted(map(abs, from_root(n, r))), sorted((x, y)))
        self.assertTrue(self.check(10 ** 298 + 1, 10 ** 149))
        self.assertTrue(self.check(5 ** 425, self.root_of_5(425)))

    def root_of_5(self, k):
        r = 2
        while (r * r + 1) % 5 ** k:
            r = (r - (r * r + 1) * pow(2 * r, -1, 5 ** k)) % 5 ** k
        return r


class AllTwo(unittest.TestCase):  # [73]
    def test_small_numbers(self):
        for n in range(1, 700):
            parts, found = factors(n), ways(n)
            self.assertEqual(all_two(parts), tuple(sorted(way for way in found if 0 <= way[0] <= way[1])))
            self.assertEqual(count_two(parts), len(found))
            self.assertEqual(count_proper(parts), sum(math.gcd(x, y) == 1 for x, y in found))
            divisors = [d for d in range(1, n + 1) if n % d == 0]
            self.assertEqual(count_two(parts), 4 * (sum(d % 4 == 1 for d in divisors) - sum(d % 4 == 3 for d in divisors)))
            self.assertEqual(count_proper(parts), 4 * sum((r * r + 1) % n == 0 for r in range(n)))
        self.assertEqual((all_two(()), count_two(()), count_proper(())), (((0, 1),), 4, 4))

    def test_great_numbers(self):
        for parts in GREATS + (((5, 57),), ((2, 1), (5, 40)), ((2, 2), (5, 20), (13, 10)), ((3, 2), (5, 10), (13, 8), (17, 6))):
            n, count = number(parts), count_two(parts)
            found = all_two(parts)
            self.assertEqual(list(found), sorted(set(found)))
            self.assertTrue(all(0 <= x <= y and x * x + y * y == n for x, y in found))
            signed = {(a * s, b * t) for x, y in found for a, b in ((x, y), (y, x)) for s in (1, -1) for t in (1, -1)}
            self.assertEqual(len(signed), count)
            self.assertEqual(count_proper(parts), sum(math.gcd(x, y) == 1 for x, y in signed))

    def test_5000_and_more(self):
        ones = [p for p in PRIMES[:200] if p % 4 == 1]
        for exponents in (
            (7, 4, 4, 4, 4, 1), (8, 4, 4, 4, 4, 1), (2, 2, 2, 2, 2, 2, 2, 2), (2, 2, 2, 2, 2, 2, 2, 2, 2), (9, 9, 9, 9), (9, 9, 9, 10), (1,) * 13, (1,) * 14,
            (4, 4, 4, 4, 2, 2), (4, 4, 4, 4, 4, 2), (9, 9, 9, 4, 1), (24, 15, 24), (24, 24, 15),
        ):
            for twos in ((), ((2, 3),)):
                parts = twos + tuple(zip(ones, exponents))
                product = math.prod(e + 1 for e in exponents)
                self.assertEqual(count_two(parts), 4 * product)
                if product // 2 + product % 2 > 5000:
                    refused(self, TooMany, {"limit": 5000}, all_two, parts)
                else:
                    self.assertEqual(len(all_two(parts)), product // 2 + product % 2)
        # Just 5,000 ways, and just 5,001.
        self.assertEqual(len(all_two(tuple(zip(ones, (9, 9, 9, 9))))), 5000)
        refused(self, TooMany, {"limit": 5000}, all_two, tuple(zip(ones, (9, 9, 9, 10))))
        parts = ((5, 72), (13, 136))
        self.assertEqual((73 * 137, count_two(parts)), (10001, 4 * 10001))
        refused(self, TooMany, {"limit": 5000}, all_two, parts)
        parts = ((5, 98), (13, 100))
        self.assertEqual(99 * 101, 9999)
        self.assertEqual(len(all_two(parts)), 5000)
        self.assertEqual(all_two(((3, 1),) + tuple(zip(ones, (9, 9, 9, 9, 9)))), ())
