import math
import unittest

from numberpapers.errors import HasCommon, NotPaper, TooHard, TooMany
from numberpapers.forms import discriminant, turned, value_of
from numberpapers.reduced import is_alike, reduced, stabilizer
from numberpapers.told import is_told_paper, middle_roots, proper_counts, told, told_small
from tests.hard import CASES, HARD, HARD_PAPER
from tests.helpers import ANY, changed, refused, some
from tests.judges import KNOWN, P, Q, TOO_HARD, WRONG_KNOWN, factors, tried, whole
from tests.primes import breach, integer, is_triple
from tests.test_forms import breach as form_breach
from tests.test_forms import is_turn, some_form, some_turn
from tests.test_reduced import SMALL, all_forms, right_reduced

SIXTY = {"limit": 64}


def all_pairs(f, n):
    """All proper pairs at which a form with small entries is n."""
    a, b, c = f
    D = 4 * a * c - b * b
    xs, ys = math.isqrt(4 * c * n // D) + 1, math.isqrt(4 * a * n // D) + 1
    pairs = [(x, y) for x in range(-xs, xs + 1) for y in range(-ys, ys + 1)]
    return [(x, y) for x, y in pairs if math.gcd(x, y) == 1 and a * x * x + b * x * y + c * y * y == n]


def least(pairs):
    fine = [(x, y) for x, y in pairs if x > 0 or (x, y) == (0, 1)]
    return min(fine) if fine else None


def is_square(D, p):
    return pow(D, (p - 1) // 2, p) == 1


def reduced_by(f):
    """The reduced form alike to f, step by step."""
    a, b, c = f
    while not right_reduced((a, b, c)):
        k = (a - b) // (2 * a)
        a, b, c = (a, b + 2 * a * k, a * k * k + b * k + c) if k else (c, -b, a)
    return (a, b, c)


def right_told(f, n, value):
    """Whether a value is an answer of told, by the words of [83]."""
    D = discriminant(f)
    if type(value) is not tuple or len(value) != 3 or type(value[0]) is not str:
        return False
    word, one, other = value
    if word == "pair":
        return integer(one) and integer(other) and math.gcd(one, other) == 1 and value_of(f, one, other) == n
    if word == "no root":
        return integer(one) and one > 1 and n % one == 0 and breach(one, other) is None and not is_square(D, one)
    if word != "unlike" or whole(n, ("whole parts", n, one)) is not None or not all(is_square(D, p) for p, _, _ in one):
        return False
    if type(other) is not tuple or len(other) != max(1, 2 ** (len(one) - 1)):
        return False
    if not all(is_triple(root, 2) and integer(root[0]) and 0 <= root[0] <= n and is_turn(root[1]) for root in other):
        return False
    if sorted({B for B, _ in other}) != [B for B, _ in other] or any((B * B - D) % (4 * n) for B, _ in other):
        return False
    mine = reduced_by(f)
    found = [turned((n, B, (B * B - D) // (4 * n)), turn) for B, turn in other]
    return all(right_reduced(g) and g != mine and reduced_by((g[0], -g[1], g[2])) != mine for g in found)


class Small(unittest.TestCase):  # [82]
    def test_small_forms(self):
        for f in SMALL[::2]:
            for n in range(1, 40):
                self.assertEqual(told_small(f, n), least(all_pairs(f, n)), (f, n))

    def test_forms_with_great_entries(self):
        source = some(443)
        for f in ((1, 0, 1), (1, 1, 1), (2, 1, 3), (1, 0, 5), (3, 2, 5), (7, 1, 11)):
            for _ in range(20):
                turn = some_turn(source, source.randrange(1, 6), source.choice((3, 100, 10 ** 5)))
                g = turned(f, turn)
                if form_breach(g) is not None:
                    continue
                (p, q), (r, s) = turn
                for n in source.sample(range(1, 200), 12):
                    pairs = [(s * x - q * y, p * y - r * x) for x, y in all_pairs(f, n)]
                    self.assertEqual(told_small(g, n), least(pairs), (g, n))

    def test_edges(self):
        self.assertEqual(told_small((1, 0, 1), 1), (0, 1))
        self.assertEqual(told_small((1, 0, 2), 1), (1, 0))
        self.assertEqual(told_small((2, 0, 1), 1), (0, 1))
        self.assertEqual(told_small((1, 0, 1), 2), (1, -1))
        self.assertEqual(told_small((1, -2, 2), 1), (1, 0))
        self.assertIsNone(told_small((1, 0, 1), 4))
        self.assertIsNone(told_small((1, 0, 1), 3))
        self.assertEqual(told_small((2, 0, 2), 4), (1, -1))
        for f in ((1, 0, 1), (1, 1, 1), (1, 0, 3), (99999, 1, 100000), (1, 0, 99999), (100000, 0, 1), (300, 7, 333)):
            for n in (100000, 99999, 99997, 1):
                self.assertEqual(told_small(f, n), least(all_pairs(f, n)), (f, n))
        for f in ((10 ** 40 // 4, 0, 1), (25 * 10 ** 38, 1, 1), (5 * 10 ** 19, 1, 5 * 10 ** 19)):
            self.assertEqual(told_small(f, 1), (0, 1) if f[2] == 1 else None)
            self.assertIsNone(told_small(f, 3))

    def test_which_numbers_are_told(self):
        source = some(449)
        for f in SMALL[::5]:
            D = discriminant(f)
            for n in source.sample(range(1, 300), 12):
                alike = [is_alike((n, B, (B * B - D) // (4 * n)), f) for B in middle_roots(D, n)]
                self.assertIs(told_small(f, n) is not None, any(alike))


class Middle(unittest.TestCase):  # [82]
    def test_small_numbers(self):
        for D in list(range(-60, 60)) + [10 ** 40 + 1, -10 ** 41, -10 ** 300 + 1]:
            for n in range(1, 30):
                self.assertEqual(middle_roots(D, n), tuple(B for B in range(2 * n) if (B * B - D) % (4 * n) == 0))

    def test_edges(self):
        self.assertEqual((middle_roots(0, 1), middle_roots(1, 1), middle_roots(2, 1), middle_roots(-3, 1)), ((0,), (1,), (), (1,)))
        for D in (-4, 1, 0, -3, 2 ** 20, -99999, 7):
            self.assertEqual(middle_roots(D, 100000), tuple(B for B in range(200000) if (B * B - D) % 400000 == 0))

    def test_mirrored_forms(self):
        source = some(457)
        for _ in range(200):
            D = -source.randrange(1, 500) * 4 + source.choice((0, 1))
            n = source.randrange(1, 400)
            for B in middle_roots(D, n):
                if B > 0:
                    self.assertIn(2 * n - B, middle_roots(D, n))
                    C = (B * B - D) // (4 * n)
                    other = (n, 2 * n - B, ((2 * n - B) ** 2 - D) // (4 * n))
                    self.assertTrue(is_alike(other, (n, -B, C)))


class Told(unittest.TestCase):  # [83]
    def check(self, f, n, known=()):
        value = told(f, n, known)
        self.assertTrue(right_told(f, n, value), (f, n, value))
        self.assertIs(is_told_paper(f, n, value), True)
        return value[0]

    def test_small_numbers(self):
        counts = {}
        for f in SMALL[::9] + [(1, 0, 5), (2, 2, 3), (1, 1, 6), (2, 1, 3), (2, -1, 3), (3, 0, 3), (1, 1, 10), (1, 0, 30)]:
            for n in range(1, 200):
                common = math.gcd(n, 2 * discriminant(f))
                if common > 1:
                    refused(self, HasCommon, {"common": common}, told, f, n)
                    refused(self, HasCommon, {"common": common}, is_told_paper, f, n, None)
                    continue
                word = self.check(f, n)
                self.assertIs(word == "pair", told_small(f, n) is not None, (f, n))
                counts[word] = counts.get(word, 0) + 1
        self.assertEqual(set(counts), {"pair", "no root", "unlike"})

    def test_one(self):
        self.assertEqual(self.check((1, 0, 1), 1), "pair")
        self.assertEqual(self.check((1, 1, 1), 1), "pair")
        for f in ((2, 2, 3), (2, 1, 3), (3, 3, 3)):
            value = told(f, 1)
            self.assertEqual(self.check(f, 1), "unlike")
            self.assertEqual((value[1], len(value[2])), ((), 1))

    def test_great_numbers(self):
        source = some(461)
        for f in ((1, 0, 1), (1, 1, 1), (1, 0, 5), (2, 2, 3), (2, 1, 3), (1, 0, 30)):
            D = discriminant(f)
            for _ in range(25):
                x, y = source.randrange(1, 10 ** 19), source.randrange(1, 10 ** 19)
                n = value_of(f, x, y)
                if math.gcd(x, y) > 1 or n > 10 ** 40 or math.gcd(n, 2 * D) > 1:
                    continue
                try:
                    self.assertEqual(self.check(f, n), "pair")
                except TooHard:
                    pass
        for _ in range(20):
            f = some_form(source)
            for n in (1, 7, 11 ** 5, 13 * 17 * 19, 3 ** 83, 5 ** 57, 99991 ** 8):
                if math.gcd(n, 2 * discriminant(f)) == 1:
                    self.check(f, n)

    def test_known(self):
        for n, known, more in CASES:
            for f in ((1, 0, 1), (1, 1, 1), (1, 0, 5), (2, 1, 3), (1, 1, 6)):
                if n > 10 ** 40 or math.gcd(n, 2 * discriminant(f)) > 1:
                    continue
                refused(self, TooHard, TOO_HARD, told, f, n)
                refused(self, TooHard, TOO_HARD, told, f, n, tried(2, 7))
                self.check(f, n, known)
                self.check(f, n, more)
        self.assertEqual(told((1, 0, 1), HARD, ((HARD, HARD_PAPER),))[0] == "pair", HARD % 4 == 1)

    def test_many_primes(self):
        ones = [p for p in range(5, 400) if len(factors(p)) == 1 and factors(p)[0][1] == 1 and p % 4 == 1]
        seven = math.prod(ones[:7])
        self.assertEqual(self.check((1, 0, 1), seven), "pair")
        self.assertEqual(self.check((1, 0, 1), seven ** 2), "pair")
        for n in (math.prod(ones[:8]), math.prod(ones[:14]), 25 * math.prod(ones[1:9])):
            refused(self, TooMany, SIXTY, told, (1, 0, 1), n)
            self.assertEqual(self.check((1, 0, 1), 3 * n), "no root")
            self.assertEqual(self.check((1, 0, 1), n * 103 ** 2), "no root")
            refused(self, TooMany, SIXTY, told, (5, 4, 1), n)
        # Seven primes, and a form that does not tell their product.
        D = -4 * 5 * 7 * 11
        primes = [p for p in range(13, 3000, 2) if len(factors(p)) == 1 and factors(p)[0][1] == 1 and is_square(D, p)]
        words = {}
        for at in range(12):
            n = math.prod(primes[at:at + 7])
            for f in all_forms(D):
                value = told(f, n)
                words[value[0]] = words.get(value[0], 0) + 1
                if value[0] == "unlike":
                    self.assertEqual(len(value[2]), 64)
                    self.check(f, n)
            refused(self, TooMany, SIXTY, told, (1, 0, 385), n * primes[at + 7])
        self.assertEqual(set(words), {"pair", "unlike"})

    def test_errors_in_their_sequence(self):
        for known, place in WRONG_KNOWN:
            for f, n in (((1, 0, 1), 1), ((1, 0, 1), 2), ((1, 0, 1), 9 * P * Q)):
                refused(self, NotPaper, {"place": place}, told, f, n, known)
        refused(self, HasCommon, {"common": 2}, told, (1, 0, 1), 2 * P * Q)
        refused(self, HasCommon, {"common": 3}, told, (1, 1, 1), 3 * P * Q)
        refused(self, HasCommon, {"common": 30}, told, (1, 0, 15), 30)
        refused(self, HasCommon, {"common": 5}, is_told_paper, (1, 0, 5), 25, ("pair", 1, 2))
        hard = 5 * 13 * 17 * 29 * 37 * 41 * 53 * P * Q
        refused(self, TooHard, TOO_HARD, told, (1, 0, 1), hard)
        if P % 4 == 1 and Q % 4 == 1:
            refused(self, TooMany, SIXTY, told, (1, 0, 1), hard, KNOWN)
        else:
            self.assertEqual(self.check((1, 0, 1), hard, KNOWN), "no root")

    def test_any_value(self):
        cases = (((1, 0, 1), 13), ((1, 0, 1), 21), ((2, 2, 3), 21), ((1, 0, 5), 7 * 23 * 3), ((2, 1, 3), 1), ((1, 0, 5), 7), ((2, 2, 3), 29 ** 2), ((1, 1, 1), 5 ** 50))
        for f, n in cases:
            right = told(f, n)
            for value in list(ANY) + list(changed(right)):
                self.assertIs(is_told_paper(f, n, value), right_told(f, n, value), (f, n, value))
            for inner in ANY:
                for value in (
                    ("pair", inner, 2), ("pair", 3, inner), ("no root", inner, ("tried", 3)), ("no root", 3, inner), ("unlike", inner, ()), ("unlike", (), inner),
                    ("unlike", (), (inner,)), ("unlike", (), ((1, inner),)), ("unlike", right[1], inner), ("pair", (inner,), 1),
                ):
                    self.assertIs(is_told_paper(f, n, value), right_told(f, n, value), (f, n, value))

    def test_never_both(self):
        for f in ((1, 0, 5), (2, 2, 3), (1, 0, 1), (2, 1, 3), (1, 1, 6)):
            for n in range(1, 120):
                if math.gcd(n, 2 * discriminant(f)) == 1:
                    answers = {told(g, n) for g in all_forms(discriminant(f))}
                    right = {value[0] for value in answers if is_told_paper(f, n, value)}
                    self.assertIn(right, ({"pair"}, {"no root"}, {"unlike"}))

    def test_nearly_right_papers(self):
        same, three, five = ((1, 0), (0, 1)), ("tried", 3), ("tried", 5)
        for f, n, value, wanted in (
            ((1, 0, 1), 9, ("pair", 3, 0), False), ((1, 0, 1), 25, ("pair", 0, 5), False), ((1, 0, 1), 25, ("pair", 3, -4), True), ((1, 0, 1), 1, ("pair", 0, -1), True), ((1, 0, 1), 13, ("no root", 3, three), False),
            ((1, 0, 1), 21, ("no root", 7, ("tried", 7)), True), ((1, 0, 1), 5, ("no root", 5, five), False), ((1, 0, 1), 15, ("no root", 5, five), False), ((1, 0, 1), 15, ("no root", 3, three), True), ((1, 0, 1), 15, ("no root", 15, ("tried", 15)), False),
            ((1, 0, 1), 9, ("no root", 3, three), True), ((1, 0, 1), 9, ("no root", 3, five), False), ((1, 0, 1), 1, ("no root", 3, three), False), ((2, 1, 3), 1, ("unlike", (), ((1, ((0, 1), (-1, 0))),)), False), ((2, 1, 3), 1, ("unlike", (), ((1, same),)), True),
            ((2, 1, 3), 1, ("unlike", (), ((-1, ((1, 1), (0, 1))),)), False), ((2, 1, 3), 1, ("unlike", (), ((3, ((1, -1), (0, 1))),)), False), ((2, 2, 3), 1, ("unlike", (), ((0, same),)), True), ((2, 2, 3), 1, ("unlike", (), ((2, ((1, -1), (0, 1))),)), False),
            ((1, 0, 5), 1, ("unlike", (), ((0, same),)), False), ((2, 2, 3), 1, ("unlike", (), ()), False), ((1, 0, 5), 11, ("unlike", ((11, 1, ("tried", 11)),), ((0, same),)), False),
        ):
            self.assertIs(right_told(f, n, value), wanted, (f, n, value))
            self.assertIs(is_told_paper(f, n, value), wanted, (f, n, value))

    def test_a_root_that_is_missing_or_twice(self):
        f, n = (2, 2, 3), 3 * 7 * 23
        word, row, roots = told((1, 0, 5), n) if told((1, 0, 5), n)[0] == "unlike" else told(f, n)
        f = (1, 0, 5) if told((1, 0, 5), n)[0] == "unlike" else f
        for wrong in (roots[1:], roots[:-1], roots[:1] * len(roots), roots[::-1], roots + roots[-1:], ()):
            self.assertIs(is_told_paper(f, n, (word, row, wrong)), False)
        self.assertIs(is_told_paper(f, n, (word, row[1:], roots)), False)


class Counts(unittest.TestCase):  # [86]
    def test_small_numbers(self):
        for D in range(-200, -2):
            if D % 4 > 1:
                continue
            for n in list(range(1, 20)) + [49, 60, 100]:
                (one, other), number = proper_counts(D, n)
                self.assertEqual((one, other), (number, 1), (D, n))
                self.assertEqual(number, sum((B * B - D) % (4 * n) == 0 for B in range(2 * n)))

    def test_the_ratio_by_its_words(self):
        for D in (-3, -4, -12, -23, -36, -75, -84, -100):
            for n in range(1, 30):
                total = sum(len(all_pairs(f, n)) * 12 // len(stabilizer(f)) for f in all_forms(D))
                self.assertEqual(proper_counts(D, n)[0], (total // math.gcd(total, 12), 12 // math.gcd(total, 12)))

    def test_edges(self):
        source = some(463)
        for D in (-3, -4, -4000, -3999, -3996, -3995, -3900):
            for n in (1, 2, 3, 1999, 2000, 1800, source.randrange(1, 2000)):
                (one, other), number = proper_counts(D, n)
                self.assertEqual((one, other), (number, 1))
                self.assertEqual(number, len(middle_roots(D, n)))
        self.assertEqual(proper_counts(-4, 1), ((1, 1), 1))
        self.assertEqual(proper_counts(-4, 3), ((0, 1), 0))
        self.assertEqual(proper_counts(-3, 7), ((2, 1), 2))
