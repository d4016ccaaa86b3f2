import math
import unittest

from numberpapers.coarse import coarse_base, is_base, parts_apart
from tests.helpers import ANY, changed, differs, some
from tests.primes import PRIMES


def by_primes(numbers, primes):
    """The coarsest base, made of all primes of the numbers: those with exponents in one ratio go together."""
    joined = {}
    for p in primes:
        heights = []
        for n in numbers:
            e = 0
            while n % p ** (e + 1) == 0:
                e += 1
            heights.append(e)
        common = math.gcd(*heights)
        if common:
            key = tuple(e // common for e in heights)
            joined[key] = joined.get(key, 1) * p ** common
    base = sorted((entry, key) for key, entry in joined.items())
    return (tuple(entry for entry, _ in base), tuple(tuple(key[i] for _, key in base) for i in range(len(numbers))))


class CoarseBase(unittest.TestCase):  # [49]
    def check(self, numbers, primes=None):
        base, table = found = coarse_base(numbers)
        self.assertEqual(list(base), sorted(set(base)))
        self.assertTrue(all(2 <= entry <= max(numbers) for entry in base))
        self.assertTrue(all(math.gcd(a, b) == 1 for a in base for b in base if a != b))
        self.assertEqual(len(table), len(numbers))
        for n, exponents in zip(numbers, table):
            self.assertEqual(len(exponents), len(base))
            self.assertTrue(all(0 <= e <= 1000 for e in exponents))
            self.assertEqual(math.prod(entry ** e for entry, e in zip(base, exponents)), n)
        columns = list(zip(*table))
        self.assertTrue(all(math.gcd(*column) == 1 for column in columns))
        self.assertEqual(len(columns), len(set(columns)))
        if primes:
            self.assertEqual(found, by_primes(numbers, primes))
        self.assertIs(is_base(numbers, found), True)

    def test_by_hand(self):
        for numbers, wanted in (
            ((1,), ((), ((),))), ((1, 1, 1), ((), ((), (), ()))), ((6,), ((6,), ((1,),))), ((36,), ((36,), ((1,),))), ((4, 8), ((2,), ((2,), (3,)))),
            ((12, 18), ((2, 3), ((2, 1), (1, 2)))), ((6, 6), ((6,), ((1,), (1,)))), ((6, 1), ((6,), ((1,), (0,)))),
            ((6, 36, 216), ((6,), ((1,), (2,), (3,)))), ((10, 15), ((2, 3, 5), ((1, 0, 1), (0, 1, 1)))),
            ((4 * 9 * 5, 16 * 81 * 7), ((5, 7, 36), ((1, 0, 1), (0, 1, 2)))), ((2 ** 4 * 3 ** 6, 2 ** 6 * 3 ** 9), ((108,), ((2,), (3,)))),
        ):
            self.assertEqual(coarse_base(numbers), wanted, numbers)
            self.check(numbers, (2, 3, 5, 7))

    def test_small_numbers(self):
        for a in range(1, 80):
            for b in range(1, 80):
                self.check((a, b), PRIMES[:25])
        source = some(229)
        for _ in range(1500):
            numbers = tuple(source.randrange(1, source.choice((10, 100, 3000))) for _ in range(source.randrange(1, 7)))
            self.check(numbers, PRIMES[:450])

    def test_great_numbers(self):
        source = some(233)
        for size in (3, 20, 120, 300):
            numbers = []
            for _ in range(12):
                n = 1
                while n < 10 ** 294:
                    n *= source.choice(PRIMES[:size])
                numbers.append(n)
            self.check(tuple(numbers), PRIMES[:size])
        for _ in range(10):
            self.check(tuple(10 ** 300 - source.randrange(10 ** 6) for _ in range(12)))
            a, b, c = (source.randrange(10 ** 48, 10 ** 49) for _ in range(3))
            pairs = [(source.randrange(3), source.randrange(3), source.randrange(3)) for _ in range(12)]
            self.check(tuple(a ** i * b ** j * c ** k for i, j, k in pairs))

    def test_powers(self):
        self.assertEqual(coarse_base((2 ** 996,)), ((2 ** 996,), ((1,),)))
        self.assertEqual(coarse_base((2 ** 996, 2 ** 995)), ((2,), ((996,), (995,))))
        self.assertEqual(coarse_base((2 ** 996, 2 ** 498)), ((2 ** 498,), ((2,), (1,))))
        self.assertEqual(coarse_base((10 ** 300,) * 12), ((10 ** 300,), ((1,),) * 12))
        self.check(tuple(2 ** (996 - 83 * k) for k in range(12)), (2,))
        self.check(tuple(6 ** (380 - k) * 5 ** k for k in range(12)), (2, 3, 5))
        self.check((2 ** 500 * 3 ** 300, 2 ** 3 * 3 ** 200, 2 ** 7 * 3 ** 11), (2, 3))
        self.check((7 ** 100, 7 ** 45, 1, 7 ** 30), (7,))

    def test_the_sequence_of_numbers_changes_rows_alone(self):
        source = some(239)
        for _ in range(200):
            numbers = [source.randrange(1, 4000) for _ in range(5)]
            base, table = coarse_base(tuple(numbers))
            shuffled = list(range(5))
            source.shuffle(shuffled)
            other, rows = coarse_base(tuple(numbers[k] for k in shuffled))
            self.assertEqual((other, rows), (base, tuple(table[k] for k in shuffled)))

    def test_parts_apart(self):
        for part in parts_apart((12, 18, 1, 60)):
            self.assertIn(part, (2, 3, 5))

    def test_any_value(self):
        for numbers in ((1,), (1, 1), (6, 36), (12, 18, 5), (10 ** 300, 15)):
            right = coarse_base(numbers)
            for value in list(ANY) + list(changed(right)) + [right]:
                self.assertIs(is_base(numbers, value), not differs(value, right), value)
        self.assertIs(is_base((6,), ((2, 3), ((1, 1),))), False)
        self.assertIs(is_base((36,), ((6,), ((2,),))), False)
        self.assertIs(is_base((1,), ((1,), ((1,),))), False)
        self.assertIs(is_base((12, 18), ((3, 2), ((1, 2), (2, 1)))), False)
