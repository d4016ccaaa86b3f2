import math
import unittest

from numberpapers.errors import NotPaper, TooHard
from numberpapers.fibonacci import fibonacci_rank, fibonacci_rest, fibonacci_round, round_denial, round_paper
from tests.hard import HARD, HARD_PAPER, HARDER
from tests.helpers import refused, some
from tests.judges import KNOWN, P, Q, TOO_HARD, WRONG_KNOWN, factors, power_upto, told_by, tried
from tests.primes import PRIMES, breach, forms, is_prime, lucas
from tests.unitcases import GREATS, LACKING, NEEDED, number

FIBONACCI = [0, 1]
while len(FIBONACCI) < 700:
    FIBONACCI.append(FIBONACCI[-1] + FIBONACCI[-2])


def rest(k, m):
    """F(k) modulo m, another way."""
    return lucas(1, -1, k, m)[0] % m


def comes(m, r):
    return rest(r, m) == 0 and (rest(r + 1, m) - 1) % m == 0


def round_by_steps(m):
    a, b, r = 1 % m, 1 % m, 1
    rank = None
    while True:
        if a == 0 and rank is None:
            rank = r
        if a == 0 and b == 1 % m:
            return r, rank
        a, b, r = b, (a + b) % m, r + 1


def is_round_row(m, r, row):
    """Whether a value is a paper of "is" of ("round", m, r) [99]."""
    if not forms(row, 3) or math.prod(power_upto(q, e, r) for q, e, _ in row) != r or not comes(m, r):
        return False
    return all(not comes(m, r // q) and breach(q, paper) is None for q, _, paper in row)


def is_round_denial(m, r, value):
    if value == ("far",):
        return not comes(m, r)
    if type(value) is not tuple or len(value) != 2 or value[0] != "short" or type(value[0]) is not str or type(value[1]) is not int:
        return False
    return 2 <= value[1] <= r and r % value[1] == 0 and comes(m, r // value[1])


def is_told(parts, known):
    primes = [q for q, _ in known]
    below = [p - 1 if pow(5, (p - 1) // 2, p) == 1 else p + 1 for p, _ in parts if p not in (2, 5)]
    return told_by(number(parts), primes) and all(told_by(n, primes) for n in below)


class Rests(unittest.TestCase):  # [99]
    def test_small_numbers(self):
        for m in list(range(1, 40)) + [10 ** 40, 10 ** 39 + 7]:
            for k in range(0, 700, 1 if m < 12 else 13):
                self.assertEqual(fibonacci_rest(k, m), FIBONACCI[k] % m)

    def test_great_numbers(self):
        source = some(619)
        for _ in range(60):
            m, k = source.randrange(1, 10 ** 40), source.randrange(10 ** 40)
            self.assertEqual(fibonacci_rest(k, m), rest(k, m))
            a, b, c = (fibonacci_rest(j, m) for j in (k, k + 1, k + 2))
            self.assertEqual((a + b) % m, c)
        for k in (10 ** 40, 10 ** 40 - 1):
            for m in (1, 2, 5, 10 ** 40):
                self.assertEqual(fibonacci_rest(k, m), rest(k, m))
        self.assertEqual((fibonacci_rest(0, 1), fibonacci_rest(1, 1), fibonacci_rest(0, 7), fibonacci_rest(2, 7)), (0, 0, 0, 1))

    def test_common_parts(self):
        source = some(631)
        for _ in range(100):
            a, b = source.randrange(1, 600), source.randrange(1, 600)
            self.assertEqual(math.gcd(FIBONACCI[a], FIBONACCI[b]), FIBONACCI[math.gcd(a, b)])


class Rounds(unittest.TestCase):  # [99]
    def check(self, m, known=()):
        r, rank = fibonacci_round(m, known), fibonacci_rank(m, known)
        self.assertTrue(is_round_row(m, r, round_paper(m, known)), m)
        self.assertIn(r, (rank, 2 * rank, 4 * rank))
        self.assertEqual(rest(rank, m), 0)
        for q in [q for q, _, _ in round_paper(m, known)]:
            self.assertTrue(rank % q or rest(rank // q, m) != 0)
        return r, rank

    def test_small_numbers(self):
        for m in range(1, 400):
            self.assertEqual(self.check(m), round_by_steps(m))
            r = fibonacci_round(m)
            for other in (1, 2, 3, r - 1, r + 1, r, 2 * r, 3 * r, 6 * r, max(1, r // 2)):
                if other > 0:
                    value = round_denial(m, other)
                    self.assertIs(value is None, other == r)
                    self.assertTrue(value is None or is_round_denial(m, other, value))

    def test_by_hand(self):
        self.assertEqual([fibonacci_round(m) for m in (1, 2, 5, 10, 3, 4, 7, 8, 9, 25)], [1, 3, 20, 60, 8, 6, 16, 12, 24, 100])
        self.assertEqual([fibonacci_rank(m) for m in (1, 2, 5, 10, 3, 4, 7, 8, 9, 25)], [1, 3, 5, 15, 4, 6, 8, 6, 12, 25])
        self.assertEqual((round_paper(1), round_paper(2)), ((), ((3, 1, ("tried", 3)),)))
        self.assertEqual(fibonacci_round(10 ** 40), 15 * 10 ** 39)
        self.assertEqual(fibonacci_rank(10 ** 40), 75 * 10 ** 38)
        self.assertEqual((round_denial(1, 1), round_denial(1, 4), round_denial(2, 1), round_denial(5, 20)), (None, ("short", 2), ("far",), None))

    def test_sentences(self):
        source = some(641)
        for p in PRIMES[:60] + [99991, 65537, 10007]:
            r = fibonacci_round(p)
            if p not in (2, 5):
                square = pow(5, (p - 1) // 2, p) == 1
                self.assertEqual((p - 1 if square else 2 * (p + 1)) % r, 0)
            for k in (2, 3, 5):
                self.assertEqual(p ** (k - 1) * r % fibonacci_round(p ** k), 0)
        for _ in range(60):
            a, b = source.randrange(1, 10 ** 5), source.randrange(1, 10 ** 5)
            if math.gcd(a, b) == 1:
                self.assertEqual(fibonacci_round(a * b), math.lcm(fibonacci_round(a), fibonacci_round(b)))
        self.assertEqual({pow(5, (p - 1) // 2, p) == 1 for p in PRIMES[3:60]}, {True, False})

    def test_great_numbers(self):
        for parts in GREATS + (((2, 100), (3, 10)), ((5, 57),), ((2, 1), (5, 1), (10007, 3)), ((9999999967, 1),)):
            m = number(parts)
            if is_told(parts, ()):
                r, _ = self.check(m)
                for q in (2, 3, 7):
                    if q * r <= 10 ** 40:
                        self.denied(m, q * r)
                for other in (r - 1, r + 1):
                    self.assertEqual(round_denial(m, other), ("far",))
                if r <= 10 ** 40:
                    self.denied(m, r, True)
            else:
                self.refused(m, ())

    def denied(self, m, r, is_so=False):
        """That a multiple of the round is one, as far as it is told."""
        if not told_by(r, []):
            refused(self, TooHard, TOO_HARD, round_denial, m, r)
        elif is_so:
            self.assertIsNone(round_denial(m, r))
        else:
            self.assertTrue(is_round_denial(m, r, round_denial(m, r)))

    def refused(self, m, known):
        for function in (fibonacci_round, fibonacci_rank, round_paper):
            refused(self, TooHard, TOO_HARD, function, m, known)

    def test_known(self):
        told = 0
        for parts, known in NEEDED + LACKING + (((((HARD, 1),), tried(P, Q)), (((5, 3), (P, 1), (Q, 2)), tried(Q)), (((P, 1), (Q, 1)), KNOWN))):
            m = number(parts)
            if is_told(parts, known):
                self.check(m, known)
                told += 1
            else:
                self.refused(m, known)
            if not is_told(parts, ()):
                self.refused(m, ())
        self.assertGreater(told, 3)

    def test_what_is_beside_a_prime_must_be_told(self):
        # A prime p with p + 1, or p - 1, made of P and Q.
        found = {}
        for step in (1, -1):
            k = 2
            while (step > 0) not in found:
                p = k * P * Q + step
                # 5 is a square modulo p where p leaves 1 or 4 divided by 5.
                if is_prime(p) and (p % 5 in (1, 4)) == (step > 0):
                    found[step > 0] = p
                k += 2
        for p in found.values():
            self.refused(p, tried(2))
            self.check(p, tried(P)) if told_by(p, [P]) else self.refused(p, tried(P))
        self.assertIs(told_by(HARDER, [P]), False)

    def test_errors(self):
        for known, place in WRONG_KNOWN:
            for m in (1, 2, 5, P * Q, HARD):
                for function in (fibonacci_round, fibonacci_rank, round_paper):
                    refused(self, NotPaper, {"place": place}, function, m, known)
                refused(self, NotPaper, {"place": place}, round_denial, m, 3, known)
        hard = P * Q
        for m in (1, 2, 5):
            r = fibonacci_round(m) * hard
            refused(self, TooHard, TOO_HARD, round_denial, m, r)
            self.assertTrue(is_round_denial(m, r, round_denial(m, r, tried(P))))
        # What is far off need not be told, nor m.
        self.assertEqual(round_denial(7, hard), ("far",))
        self.assertEqual(round_denial(hard, 60), ("far",))
        self.assertEqual(round_denial(HARD, 1), ("far",))
        self.assertEqual(round_denial(HARD, HARD - 1, ((HARD, HARD_PAPER),)) if not comes(HARD, HARD - 1) else ("far",), ("far",))
        self.assertEqual(factors(HARD - 1)[-1][0] > 10 ** 4, True)
