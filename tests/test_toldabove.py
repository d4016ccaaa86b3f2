import math
import unittest

from numberpapers.errors import TooMany
from numberpapers.forms import turned, value_of
from numberpapers.rivers import alike_above, river
from numberpapers.toldabove import is_told_above, told_above
from tests.helpers import ANY, changed, refused, some
from tests.primes import PRIMES, integer, is_triple
from tests.test_rivers import SMALL, above, some_river, square, walk
from tests.test_forms import some_turn

MOST = {"limit": 20000}


def sorts(f, n):
    """How many sorts of proper pairs have the value n: the roots modulo 2 |n| whose forms are alike to f."""
    D, count = above(f), 0
    for B in range(2 * abs(n)):
        if (B * B - D) % (4 * n) == 0:
            count += alike_above((n, B, (B * B - D) // (4 * n)), f)[0] == "turn"
    return count


def right_answer(f, n, value):
    """Whether a value is an answer of told_above, by the words of [93], where the round is short."""
    if type(value) is not tuple or not value or type(value[0]) is not str:
        return False
    if value[0] == "pair":
        return len(value) == 3 and all(map(integer, value[1:])) and math.gcd(*value[1:]) == 1 and value_of(f, *value[1:]) == n
    return value[0] == "none" and len(value) == 2 and type(value[1]) is str and value[1] == walk(f)[0] and sorts(f, n) == 0


class ToldAbove(unittest.TestCase):  # [93]
    def check(self, f, n):
        value = told_above(f, n)
        self.assertIs(is_told_above(f, n, value), True)
        if value[0] == "pair":
            _, x, y = value
            self.assertEqual((math.gcd(x, y), value_of(f, x, y)), (1, n))
        else:
            self.assertEqual(value, ("none", walk(f)[0]))
        return value[0]

    def test_small_numbers(self):
        counts = {}
        for f in SMALL[::7] + [(1, 0, -2), (1, 0, -7), (7, 0, -1), (2, 0, -5), (1, 1, -1), (2, 2, -2), (3, 0, -6)]:
            for n in range(-25, 26):
                if n:
                    word = self.check(f, n)
                    self.assertIs(word == "pair", sorts(f, n) > 0, (f, n))
                    counts[word] = counts.get(word, 0) + 1
        self.assertEqual(set(counts), {"pair", "none"})

    def test_by_trying(self):
        for f in SMALL[::11]:
            values = {value_of(f, x, y) for x in range(-40, 41) for y in range(-40, 41) if math.gcd(x, y) == 1}
            for n in range(-30, 31):
                if n in values and n:
                    self.assertEqual(self.check(f, n), "pair")

    def test_pairs_that_are_made(self):
        source = some(571)
        for _ in range(80):
            f = some_river(source, source.choice((1, 2, 3, 5)))
            x, y = source.randrange(-30, 31), source.randrange(-30, 31)
            n = value_of(f, x, y)
            if math.gcd(x, y) == 1 and abs(n) <= 10 ** 6:
                try:
                    self.assertEqual(self.check(f, n), "pair")
                except TooMany as error:
                    self.assertEqual(error.limit, 20000)
                self.assertIs(is_told_above(f, n, ("pair", x, y)), True)

    def test_great_forms(self):
        source = some(577)
        for _ in range(20):
            f = some_river(source, 39)
            refused(self, TooMany, MOST, told_above, f, source.choice((1, -1, 10 ** 6, -(10 ** 6))))
        g = turned((1, 0, -2), some_turn(source, 3, 10))
        for f in walk((1, 0, -3))[1] + walk((5, 7, -11))[1]:
            for n in (1, -1, 2, -2, 5, -11, 13, 10 ** 4, -9999):
                self.check(f, n)
        self.assertEqual(above(g), 8)


class Counts(unittest.TestCase):  # [93]
    """Of D = 5 and of D = 8 all forms are alike, so that each root modulo 2 |n| tells a sort."""

    def roots(self, D, n):
        """How many B from 0 to 2 |n| - 1 have B * B - D divisible by 4 n, by the primes of n."""
        count = 1
        for p in PRIMES:
            if p * p > n:
                break
            e = 0
            while n % p == 0:
                n, e = n // p, e + 1
            if e:
                count *= self.part(D, p, e)
        return count * (self.part(D, n, 1) if n > 1 else 1)

    def part(self, D, p, e):
        if p == 2 or D % p == 0:
            return sum((B * B - D) % (4 * p ** e) == 0 for B in range(2 * p ** e)) if p ** e < 5000 else 0
        return 2 if pow(D, (p - 1) // 2, p) == 1 else 0

    def test_roots(self):
        for D, f in ((5, (1, 1, -1)), (8, (1, 0, -2))):
            for n in range(1, 60):
                self.assertEqual(self.roots(D, n), sorts(f, n))
                self.assertEqual(sorts(f, -n), sorts(f, n))

    def test_just_so_many(self):
        for D, f in ((5, (1, 1, -1)), (8, (1, 0, -2)), (5, (1, -1, -1)), (8, (2, 0, -1))):
            count, n = len(walk(f)[0]), 0
            # Forms of one discriminant are alike, whichever signs the values have.
            while count + self.roots(D, n + 1) <= 20000:
                n += 1
                count += self.roots(D, n)
            for signed in (n, -n):
                value = told_above(f, signed)
                self.assertIs(is_told_above(f, signed, value), True)
                self.assertIs(value[0] == "pair", self.roots(D, n) > 0)
            for signed in (n + 1, -n - 1):
                refused(self, TooMany, MOST, told_above, f, signed)
                refused(self, TooMany, MOST, is_told_above, f, signed, ("none",))
                refused(self, TooMany, MOST, is_told_above, f, signed, ("none", "lr"))
                self.assertIs(is_told_above(f, signed, ("pair", 1, 0)), False)
            self.assertGreater(n, 1000)

    def test_just_so_many_letters(self):
        # A round of 3 k letters, whose least values are 1 and -2.
        for k, limits in ((6666, ((1, False), (-1, False), (-2, False), (2, False))), (6667, ((1, True), (-1, True)))):
            f = (1, 0, -k * k - 2)
            self.assertEqual(len(walk(f)[0]), 3 * k)
            for n, is_refused in limits:
                if is_refused:
                    refused(self, TooMany, MOST, told_above, f, n)
                else:
                    self.assertEqual(told_above(f, n)[0] == "pair", n in (1, -2), n)
        # 4 k letters, and the values 1, 2 k twice, 4 k - 3 twice and greater ones; the same below 0.
        k = 4999
        f = (1, 0, -k * k - 1)
        self.assertEqual(len(walk(f)[0]), 4 * k)
        for n, word in ((1, "pair"), (2, "none"), (2 * k, "pair"), (4 * k - 4, "none"), (4 * k - 3, None), (4 * k, None), (10 ** 6, None)):
            for signed in (n, -n):
                if word is None:
                    refused(self, TooMany, MOST, told_above, f, signed)
                else:
                    self.assertEqual(told_above(f, signed)[0], word)
        # 20,000 letters, and a sort more for 1 and for -1.
        f = (1, 0, -5000 ** 2 - 1)
        self.assertEqual(len(walk(f)[0]), 20000)
        refused(self, TooMany, MOST, told_above, f, 1)
        refused(self, TooMany, MOST, told_above, f, -1)
        f = (2, 2, -5000 ** 2 // 2)
        self.assertEqual(above(f), 4 * (5000 ** 2 + 1))
        self.assertEqual(told_above(f, 1), ("none", walk(f)[0]))
        self.assertEqual(told_above(f, 2)[0], "pair")


class Judge(unittest.TestCase):  # [93]
    def test_any_value(self):
        for f, n in (((1, 0, -7), 2), ((1, 0, -7), -3), ((1, 0, -7), 5), ((2, 3, -4), -4), ((2, 3, -4), 7), ((1, 1, -1), 4), ((1, 0, -7), 4)):
            right = told_above(f, n)
            values = list(ANY) + list(changed(right)) + [("none", walk(f)[0])]
            for inner in ANY + ("lr", "rrlrlrr"):
                values += [("pair", inner, 1), ("pair", 3, inner), ("none", inner), ("none", walk(f)[0], inner), (inner, 3, 1)]
            for value in values:
                self.assertIs(is_told_above(f, n, value), right_answer(f, n, value), (f, n, value))

    def test_too_many_only_for_none(self):
        f = (1, 0, 1 - 10 ** 40)
        for value in (("none",), ("none", "l"), ("none", None), ("none", 1, 2, 3), ("none", ())):
            refused(self, TooMany, MOST, is_told_above, f, 5, value)
        others = tuple(value for value in ANY if type(value) is not tuple or value[:1] != ("none",))
        for value in others + (("nones", "l"), ["none", "l"], "none", ("pair", 1, 1), (("none",), "l")):
            self.assertIs(is_told_above(f, 5, value), False)
        self.assertIs(is_told_above(f, 1, ("pair", 1, 0)), True)
        self.assertIs(is_told_above(f, 1, ("pair", -1, 0)), True)
        self.assertIs(is_told_above(f, 4, ("pair", 2, 0)), False)
        self.assertFalse(square(above(f)))

    def test_long_pairs(self):
        f = (1, 0, -2)
        letters = river(f)[0]
        x, y = 1, 0
        for _ in range(2000):
            x, y = 3 * x + 4 * y, 2 * x + 3 * y
        self.assertIs(is_told_above(f, 1, ("pair", x, y)), True)
        self.assertIs(is_told_above(f, 1, ("pair", x + 1, y)), False)
        self.assertIs(is_told_above(f, 3, ("none", letters)), True)
        self.assertTrue(is_triple(("pair", x, y), 3))
