import math
import unittest
from fractions import Fraction

from numberpapers.chains import chain, convergents, is_neighbours, nearest, neighbours, of_turns, turns
from numberpapers.errors import TooMany
from tests.helpers import ANY, changed, differs, refused, some

GREAT = 10 ** 400 - 1


def ratio_of(row):
    """The ratio of a chain, from its end."""
    total = Fraction(row[-1])
    for q in row[-2::-1]:
        total = q + 1 / total
    return total


class Chains(unittest.TestCase):  # [25]
    def test_small_ratios(self):
        for a in range(-40, 41):
            for b in list(range(-25, 0)) + list(range(1, 26)):
                self.check(a, b)

    def check(self, a, b):
        found = chain(a, b)
        left, wanted = Fraction(a, b), []
        while True:
            q = math.floor(left)
            wanted.append(q)
            if left == q:
                break
            left = 1 / (left - q)
        self.assertEqual(found, tuple(wanted))

    def test_great_ratios(self):
        source = some(97)
        for _ in range(10):
            self.check(source.randrange(-GREAT, GREAT), source.randrange(1, GREAT))
            self.check(source.randrange(-GREAT, GREAT), -source.randrange(1, GREAT))
        self.check(GREAT, -1)
        self.check(0, GREAT)
        self.check(0, -GREAT)
        self.check(GREAT, -GREAT)

    def test_convergents(self):
        source = some(101)
        rows = [(0,), (5,), (-5,), (0, 1), (-1, 1, 1), (3, 7, 15, 1, 292)]
        rows += [tuple([source.randrange(-9, 9)] + [source.randrange(1, 9) for _ in range(k)]) for k in range(12)]
        for value in rows:
            found = convergents(value)
            self.assertEqual(len(found), len(value))
            for k, (p, q) in enumerate(found):
                ratio = ratio_of(value[:k + 1])
                self.assertEqual((p, q), (ratio.numerator, ratio.denominator))
            for k in range(len(found) - 1):
                (p, q), (r, s) = found[k], found[k + 1]
                self.assertEqual(r * q - p * s, 1 if k % 2 == 0 else -1)
        self.assertEqual(convergents((3, 7, 15, 1)), ((3, 1), (22, 7), (333, 106), (355, 113)))

    def test_convergents_are_nearest(self):
        value = (2, 3, 1, 4, 2)
        whole = ratio_of(value)
        for p, q in convergents(value)[1:]:
            for s in range(1, q):
                r = round(whole * s)
                self.assertGreater(abs(whole - Fraction(r, s)), abs(whole - Fraction(p, q)))

    def test_great_convergents(self):
        value = (-(10 ** 100) + 1,) + (10 ** 100 - 1,) * 399
        found = convergents(value)
        self.assertEqual(len(found), 400)
        self.assertEqual(chain(found[-1][0], found[-1][1]), value)


class Neighbours(unittest.TestCase):  # [26]
    def test_small_ones(self):
        for most in range(1, 14):
            ratios = sorted({Fraction(p, q) for q in range(1, most + 1) for p in range(-3 * q, 3 * q + 1)})
            for b in range(1, 30):
                for a in range(-40, 41):
                    if abs(a) > 2 * b:
                        continue
                    x = Fraction(a, b)
                    low = max(r for r in ratios if r <= x)
                    high = min(r for r in ratios if r >= x)
                    wanted = ((low.numerator, low.denominator), (high.numerator, high.denominator))
                    self.assertEqual(neighbours(a, b, most), wanted)
                    self.assertIs(is_neighbours(a, b, most, wanted), True)
                    best = min((low, high), key=lambda r: (abs(r - x), r.denominator, r))
                    self.assertEqual(nearest(a, b, most), (best.numerator, best.denominator))

    def test_great_ones(self):
        source = some(103)
        for most in (1, 2, 10 ** 6, 10 ** 40):
            for _ in range(30):
                a, b = source.randrange(-GREAT, GREAT), source.randrange(1, GREAT)
                self.check(a, b, most)
            for a, b in ((GREAT, 1), (0, GREAT), (-GREAT, GREAT - 1), (1, GREAT), (-1, GREAT), (10 ** 40 - 1, 10 ** 40)):
                self.check(a, b, most)

    def check(self, a, b, most):
        (p, q), (r, s) = neighbours(a, b, most)
        x = Fraction(a, b)
        self.assertTrue(1 <= q <= most and 1 <= s <= most)
        self.assertTrue(math.gcd(p, q) == math.gcd(r, s) == 1)
        if x.denominator <= most:
            self.assertEqual((p, q, r, s), (x.numerator, x.denominator) * 2)
        else:
            self.assertTrue(Fraction(p, q) < x < Fraction(r, s))
            self.assertEqual(r * q - p * s, 1)
            self.assertGreater(q + s, most)
        best = min((Fraction(p, q), Fraction(r, s)), key=lambda t: (abs(t - x), t.denominator, t))
        self.assertEqual(nearest(a, b, most), (best.numerator, best.denominator))

    def test_equally_near(self):
        self.assertEqual(nearest(1, 2, 1), (0, 1))
        self.assertEqual(nearest(-1, 2, 1), (-1, 1))
        # 1/3 and 1/2 are both off by 1/12, 2/5 and 1/2 both by 1/20.
        self.assertEqual(neighbours(5, 12, 3), ((1, 3), (1, 2)))
        self.assertEqual(nearest(5, 12, 3), (1, 2))
        self.assertEqual(neighbours(9, 20, 5), ((2, 5), (1, 2)))
        self.assertEqual(nearest(9, 20, 5), (1, 2))

    def test_any_value(self):
        for a, b, most in ((22, 7, 5), (6, 4, 2), (-7, 9, 3), (0, 1, 1)):
            right = neighbours(a, b, most)
            for value in list(ANY) + list(changed(right)):
                self.assertIs(is_neighbours(a, b, most, value), not differs(value, right), value)


class Turns(unittest.TestCase):  # [27]
    def test_small_ratios(self):
        for a in range(1, 40):
            for b in range(1, 40):
                text = turns(a, b)
                g = math.gcd(a, b)
                self.assertEqual(of_turns(text), (a // g, b // g))
                ends, ratio = [(0, 1), (1, 0)], (1, 1)
                for letter in text:
                    ends[1 if letter == "l" else 0] = ratio
                    ratio = (ends[0][0] + ends[1][0], ends[0][1] + ends[1][1])
                self.assertEqual(ratio, (a // g, b // g))
        self.assertEqual((turns(1, 1), turns(7, 7), turns(1, 2), turns(2, 1), turns(2, 3)), ("", "", "l", "r", "lr"))

    def test_each_text_once(self):
        texts = [""]
        for _ in range(8):
            texts += [text + letter for text in texts for letter in "lr"]
        for text in set(texts):
            self.assertEqual(turns(*of_turns(text)), text)

    def test_order(self):
        ratios = sorted({Fraction(a, b) for a in range(1, 20) for b in range(1, 20)})
        texts = [turns(x.numerator, x.denominator) + "m" for x in ratios]
        self.assertEqual(texts, sorted(texts))

    def test_2000_letters(self):
        self.assertEqual(turns(2001, 1), "r" * 2000)
        self.assertEqual(turns(1, 2001), "l" * 2000)
        refused(self, TooMany, {"limit": 2000}, turns, 2002, 1)
        refused(self, TooMany, {"limit": 2000}, turns, 1, 2002)
        refused(self, TooMany, {"limit": 2000}, turns, 10 ** 399, 1)
        refused(self, TooMany, {"limit": 2000}, turns, 1, GREAT)
        for text in ("lr" * 1000, "rl" * 1000, "r" * 1000 + "l" * 1000, "l" * 1999 + "r"):
            a, b = of_turns(text)
            self.assertEqual(turns(a, b), text)
            for letter in "lr":
                refused(self, TooMany, {"limit": 2000}, turns, *of_turns(text + letter))
        a, b = of_turns("r" * 2000)
        self.assertEqual((a, b), (2001, 1))
        self.assertEqual(turns(5 * 2001, 5), "r" * 2000)
