import math
import unittest

from numberpapers.errors import IsSquare, TooMany
from numberpapers.pell import is_least_pell, is_no_pell_below, pell, pell_all, pell_below, pell_value
from numberpapers.rivers import river
from numberpapers.surds import surd_chain
from tests.helpers import ANY, changed, refused, some
from tests.primes import integer, is_triple
from tests.test_rivers import walk

MOST = {"limit": 5000}


def square(n):
    return math.isqrt(n) ** 2 == n


def solutions(N, count):
    """The convergents (p, q) of the root of N with the values p * p - N * q * q, the first ones, and count entries."""
    root, m, d, a = math.isqrt(N), 0, 1, math.isqrt(N)
    p, q, P, Q = a, 1, 1, 0
    for _ in range(count):
        yield p, q, p * p - N * q * q
        m = d * a - m
        d = (N - m * m) // d
        a = (root + m) // d
        p, q, P, Q = a * p + P, a * q + Q, p, q


def first(N, value):
    """The least pair with the value 1 or -1 (all such are convergents), -1 only where it comes ahead of that with 1."""
    for p, q, v in solutions(N, 20000):
        if v == value:
            return (p, q)
        if v == 1:
            return None


def right_least(N, value, letters):
    if not is_triple(value, 2) or not all(map(integer, value)) or type(letters) is not str:
        return False
    return letters == walk((1, 0, -N))[0] and value == first(N, 1)


def right_none(N, letters):
    text, forms = walk((1, 0, -N))
    return type(letters) is str and letters == text and (N, 0, -1) not in forms


NUMBERS = [N for N in range(2, 260) if not square(N)]


class Pell(unittest.TestCase):  # [91]
    def test_by_trying(self):
        for N in NUMBERS:
            for value, function in ((1, pell), (-1, pell_below)):
                pairs = ((math.isqrt(N * u * u + value), u) for u in range(1, 2000) if N * u * u + value > 0 and square(N * u * u + value))
                pair = next(pairs, None)
                found = function(N)
                self.assertEqual(found if found and found[1] < 2000 else None, pair, (N, value))
                self.assertEqual(found, first(N, value))

    def test_by_hand(self):
        self.assertEqual([pell(N) for N in (2, 3, 5, 61)], [(3, 2), (2, 1), (9, 4), (1766319049, 226153980)])
        self.assertEqual([pell_below(N) for N in (2, 3, 5, 61, 34)], [(1, 1), None, (2, 1), (29718, 3805), None])

    def test_all(self):
        for N in NUMBERS[::5]:
            for count in (1, 2, 5, 50):
                pairs = pell_all(N, count)
                self.assertEqual(len(pairs), count)
                self.assertEqual(pairs[0], pell(N))
                t, u = pairs[0]
                for (a, b), (c, d) in zip(pairs, pairs[1:]):
                    self.assertEqual((c, d), (a * t + b * u * N, a * u + b * t))
                self.assertEqual(pairs, pell_all(N, 50)[:count])
        # All pairs up to a bound.
        for N in (2, 3, 5, 7, 11, 15):
            pairs = [(math.isqrt(N * u * u + 1), u) for u in range(1, 20000) if square(N * u * u + 1)]
            self.assertEqual(list(pell_all(N, len(pairs))), pairs)

    def test_below(self):
        for N in NUMBERS:
            pair = pell_below(N)
            letters, forms = river((1, 0, -N))
            self.assertIs(pair is not None, len(surd_chain(N)[1]) % 2 == 1)
            self.assertIs(pair is not None, (N, 0, -1) in forms)
            if pair:
                t, u = pair
                self.assertEqual((t * t + N * u * u, 2 * t * u), pell(N))

    def test_great_numbers(self):
        for N in (10 ** 6 + 1, 1250 ** 2 + 1, 1249 ** 2 + 1, 1666 ** 2 + 2, 2499 ** 2 + 4, 991, 9781, 2399 ** 2 - 1, 12500 - 1, 999999):
            letters = self.count(N)
            if letters > 5000:
                self.refused(N)
                continue
            self.assertEqual(pell(N), first(N, 1))
            self.assertEqual(pell_below(N), first(N, -1))

    def count(self, N):
        _, period = surd_chain(N)
        return sum(period) * (1 + len(period) % 2)

    def refused(self, N):
        for call in (lambda: pell(N), lambda: pell_all(N, 3), lambda: pell_below(N), lambda: pell_value(N, 1), lambda: pell_value(N, -7)):
            refused(self, TooMany, MOST, call)

    def test_how_long_rounds_may_be(self):
        for N, count in ((1250 ** 2 + 1, 5000), (1251 ** 2 + 1, 5004), (1666 ** 2 + 2, 4998), (1667 ** 2 + 2, 5001), (2500 ** 2 - 1, 4999 + 1)):
            self.assertEqual(self.count(N), len(walk((1, 0, -N))[0]))
            if count > 5000:
                self.refused(N)
            else:
                self.assertEqual(pell(N), first(N, 1))
        for N in (10 ** 12 - 1, 10 ** 12 - 17, 999999 ** 2 + 1):
            self.refused(N)

    def test_squares(self):
        for root in (2, 3, 10, 999999, 10 ** 6):
            N = root * root
            for call in (
                lambda: pell(N), lambda: pell_all(N, 3), lambda: pell_below(N), lambda: pell_value(N, 1), lambda: is_least_pell(N, (1, 1), "rl"), lambda: is_no_pell_below(N, None),
            ):
                refused(self, IsSquare, {"root": root}, call)


class Values(unittest.TestCase):  # [91]
    def test_by_trying(self):
        for N in NUMBERS:
            t, u = pell(N)
            if u > 3000:
                continue
            for m in range(-math.isqrt(N), math.isqrt(N) + 1):
                if m == 0:
                    continue
                pairs = [(math.isqrt(m + N * q * q), q) for q in range(1, u + 1) if m + N * q * q > 0 and square(m + N * q * q)]
                pairs = tuple((p, q) for p, q in pairs if math.gcd(p, q) == 1 and p <= t)
                self.assertEqual(pell_value(N, m), pairs, (N, m))

    def test_great_pairs(self):
        for N in (61, 109, 181, 277, 397, 409, 421, 541, 661, 1021, 1069, 9949):
            t, u = pell(N)
            entries = 2 * len(surd_chain(N)[1])
            for m in (1, -1, 3, -3, 4, -4, 5, -5, 9, -9, 12, -12, math.isqrt(N), -math.isqrt(N)):
                if m * m < N:
                    pairs = [(p, q) for p, q, v in solutions(N, entries + 2) if v == m and p <= t]
                    self.assertEqual(list(pell_value(N, m)), sorted(pairs))
                    for p, q in pell_value(N, m):
                        self.assertEqual((math.gcd(p, q), p * p - N * q * q), (1, m))

    def test_edges(self):
        self.assertEqual(pell_value(2, 1), ((3, 2),))
        self.assertEqual(pell_value(2, -1), ((1, 1),))
        self.assertEqual(pell_value(3, 1), ((2, 1),))
        self.assertEqual(pell_value(3, -1), ())
        self.assertEqual(pell_value(17, 4), ())
        self.assertEqual(pell_value(13, 1), ((649, 180),))
        self.assertEqual(pell_value(13, -3), ((7, 2), (137, 38)))


class Judges(unittest.TestCase):  # [92]
    def test_right_values(self):
        for N in NUMBERS:
            letters = river((1, 0, -N))[0]
            t, u = pell(N)
            self.assertIs(is_least_pell(N, (t, u), letters), True)
            self.assertIs(is_no_pell_below(N, letters), pell_below(N) is None)
            # The turn of the round.
            p, q, r, s = 1, 0, 0, 1
            for letter in letters:
                p, q, r, s = (p + q, q, r + s, s) if letter == "l" else (p, p + q, r, r + s)
            self.assertEqual((p, q, r, s), (t, N * u, u, t))
            for wrong in (letters[:-1], letters + "r", letters * 2, "", "r" + letters[1:] + "x", letters[::-1] + "l", letters.upper()):
                self.assertIs(is_no_pell_below(N, wrong), right_none(N, wrong))
                self.assertIs(is_least_pell(N, (t, u), wrong), right_least(N, (t, u), wrong))
            for wrong in ((t, -u), (-t, u), (t + 1, u), (2 * t * t - 1, 2 * t * u), (1, 0), (u, t)):
                self.assertIs(is_least_pell(N, wrong, letters), False)

    def test_any_value(self):
        for N in (2, 3, 13, 34, 61, 10 ** 12 - 1):
            short = N < 100
            letters = river((1, 0, -N))[0] if short else "r" * 999999 + "l" + "r" * 999999
            pair = pell(N) if short else (999999 + 1, 1)
            for value in list(ANY) + list(changed(pair)):
                self.assertIs(is_least_pell(N, value, letters if short else letters[:9]), right_least(N, value, letters) if short else False, value)
            for value in list(ANY) + (list(changed(letters)) if short else [letters + "l", letters[1:]]):
                self.assertIs(is_no_pell_below(N, value), right_none(N, value) if short else False)
                self.assertIs(is_least_pell(N, pair, value), right_least(N, pair, value) if short else False)

    def test_long_rounds(self):
        # Judged however long they are.
        for N, letters in ((1667 ** 2 + 2, None), (10 ** 6 + 1, None), (10 ** 12 - 1, "r" * 999999 + "l" + "r" * 999999)):
            text = letters if letters else walk((1, 0, -N))[0]
            found = is_no_pell_below(N, text)
            self.assertIs(found, len(surd_chain(N)[1]) % 2 == 0)
            self.assertIs(is_least_pell(N, first(N, 1), text), True)
            self.assertIs(is_least_pell(N, first(N, 1), text[:-1]), False)
            self.assertIs(is_no_pell_below(N, text + text), False)
        source = some(569)
        for _ in range(20):
            N = source.randrange(2, 10 ** 12)
            if not square(N):
                self.assertIs(is_no_pell_below(N, "r" * 100), False)
                self.assertIs(is_least_pell(N, (1, 1), "rl" * 100), False)
