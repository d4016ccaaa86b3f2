import unittest

from numberpapers.soft import generator_or_witness, is_soft, leftover_of, passes_twelve
from numberpapers.trials import divisor_from
from tests.helpers import some
from tests.primes import PRIMES, TWELVE, is_prime, leftover, passes, soft, strong

# Just above 10 ** 5 and around 10 ** 10.
P, Q, R = 100003, 100019, 100043
BELOW, ABOVE = 9999999967, 10000000019

# For each of the twelve primes a number that is not prime, which this one alone shows.
ONE_WITNESS = (
    (2, 191001252013530979338181),
    (3, 260961918608897528198221),
    (5, 21719806642507488599701),
    (7, 3696815919648269080981),
    (11, 13877661561230602556821),
    (13, 40197444625660898439181),
    (17, 284888568357724065310621),
    (19, 2212192807766424234181),
    (23, 274059473270847383089981),
    (29, 56455859085554180115181),
    (31, 1599488979355298155435741),
    (37, 7395010240794120709381),
)


def next_prime(n, step=1):
    n += step
    while not is_prime(n):
        n += step
    return n


def edges():
    yield from (1, 2, 3, 4, 99991, 99991 ** 2, 99991 * P, P, P * P, P ** 3, P ** 8, P * Q, P * Q * R, 2 * P * Q, P * P * Q)
    yield from (BELOW, BELOW ** 2, BELOW ** 4, BELOW * P, 6 * BELOW, ABOVE, ABOVE ** 2, ABOVE ** 3, ABOVE * P, 30 * ABOVE)
    yield from (10 ** 40, 10 ** 40 - 1, 10 ** 10, 10 ** 10 - 1, 10 ** 10 + 1, 2 ** 132, 3 ** 83, (P * Q) ** 2, (P * Q) ** 4)


def hard_prime():
    """A prime whose forerunner has the two primes P and Q, so that it is not soft."""
    k = 2
    while not is_prime(k * P * Q + 1):
        k += 2
    return k * P * Q + 1


def soft_prime(digits):
    """A prime above 10 ** digits whose forerunner is soft."""
    n = next_prime(10 ** digits)
    while not soft(n - 1):
        n = next_prime(n)
    return n


def towers():
    """Primes whose forerunners have great primes, whose forerunners have great primes ..; soft and hard ones."""
    for p in (soft_prime(10), soft_prime(12), hard_prime(), soft_prime(15)):
        for _ in range(4):
            k = 2
            while not is_prime(k * p + 1):
                k += 2
            p = k * p + 1
            if p < 10 ** 40:
                yield p


class Leftovers(unittest.TestCase):  # [39]
    def test_leftovers(self):
        source = some(163)
        numbers = list(range(1, 400)) + list(edges()) + [source.randrange(1, 10 ** 40) for _ in range(40)]
        numbers += [99991 ** k for k in range(1, 9)] + [PRIMES[-1] * PRIMES[-2], 2 * 3 * 5 * 7 * 11 * 13 * P ** 2]
        for n in numbers:
            self.assertEqual(leftover_of(n), leftover(n), n)
        self.assertEqual(leftover_of(1), ((), 1))
        self.assertEqual(leftover_of(12), (((2, 2), (3, 1)), 1))
        self.assertEqual(leftover_of(2 * P), (((2, 1),), P))

    def test_least_divisors(self):
        for n in range(2, 2000):
            least = next(d for d in range(2, n + 1) if n % d == 0)
            for most in (2, 3, 5, 6, 7, 10, 30, 31, 100, n):
                self.assertEqual(divisor_from(n, 2, most), least if least <= most else 0)


class Soft(unittest.TestCase):  # [4], [39]
    def test_edges(self):
        for n in edges():
            self.assertIs(is_soft(n), soft(n), n)
        wanted = {
            1: True, P: True, P * P: True, P ** 8: True, P * Q: False, P * P * Q: False, 2 * P * Q: False,
            BELOW ** 4: True, BELOW * P: False, 10 ** 40: True, (P * Q) ** 2: False,
        }
        for n, right in wanted.items():
            self.assertIs(is_soft(n), right, n)

    def test_great_primes(self):
        seen = set()
        for p in list(towers()) + [hard_prime(), ABOVE, next_prime(ABOVE), next_prime(10 ** 13), soft_prime(20)]:
            for n in (p, 12 * p, p * p, p - 1, 2 * p * P):
                if n <= 10 ** 40:
                    seen.add((is_soft(n), n == p))
                    self.assertIs(is_soft(n), soft(n), n)
        self.assertEqual(len(seen), 4)

    def test_what_passes_the_twelve_need_not_be_prime(self):
        # 552727880697763694556181 less 1 is soft, but it is not prime.
        n = 552727880697763694556181
        self.assertIs(passes_twelve(n), True)
        self.assertIs(is_soft(n - 1), True)
        self.assertIs(is_soft(n), False)
        self.assertIs(is_soft(6 * n), False)

    def test_some(self):
        source = some(167)
        counts = {True: 0, False: 0}
        for digits in (6, 10, 11, 14, 20, 30, 40):
            for _ in range(12):
                n = source.randrange(1, 10 ** digits)
                counts[is_soft(n)] += 1
                self.assertIs(is_soft(n), soft(n), n)
        self.assertGreater(min(counts.values()), 10)


class Twelve(unittest.TestCase):  # [4], [39]
    def test_small_numbers(self):
        for n in range(3, 5000, 2):
            self.assertIs(passes_twelve(n), passes(n))
            self.assertIs(passes_twelve(n), is_prime(n), n)

    def test_great_numbers(self):
        # Not prime, but strong witnesses are above 37, and above 41.
        for n in (318665857834031151167461, 3317044064679887385961981):
            self.assertIs(passes_twelve(n), True)
        for n in (3825123056546413051, 3215031751):
            self.assertIs(passes_twelve(n), False)
        source = some(173)
        for digits in (12, 40, 300):
            for _ in range(30):
                n = source.randrange(10 ** digits) | 1
                self.assertIs(passes_twelve(n), passes(n))
        self.assertIs(passes_twelve(next_prime(10 ** 299)), True)

    def test_each_of_the_twelve_counts(self):
        self.assertEqual([a for a, _ in ONE_WITNESS], TWELVE)
        for a, n in ONE_WITNESS:
            self.assertEqual([b for b in TWELVE if strong(n, b)], [a])
            self.assertIs(passes_twelve(n), False)

    def test_a_number_that_deceives_some_bases_is_found(self):
        # 3215031751 has no strong witness up to 7.
        n = 3215031751
        word, a = generator_or_witness(n, leftover(n - 1)[0])
        self.assertEqual((word, a), ("strong", 11))
        self.assertEqual(generator_or_witness(3, ((2, 1),)), ("generator", 2))
