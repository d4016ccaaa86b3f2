import unittest

from numberpapers.digits import need_row
from numberpapers.errors import ByNought, NotFit
from numberpapers.newton import divided_fast, inverse, rests_all
from tests.helpers import number, refused, row, some, some_row


class Inverses(unittest.TestCase):  # [20]
    def check(self, one, k):
        found = inverse(one, k)
        base, n, d, r = one[0], len(one[1]), number(one), number(found)
        self.assertEqual(found, row(r, base))
        self.assertLessEqual(abs(r * d - base ** (n + k)), 2 * d)
        # divided_fast counts on this.
        self.assertLessEqual(r * d, base ** (n + k))

    def test_short_ones(self):
        source = some(61)
        for base in (2, 3, 10, 10 ** 6):
            for size in (1, 2, 3, 5, 17):
                for k in list(range(1, 14)) + [40, 200]:
                    for _ in range(4):
                        self.check(some_row(source, base, size), k)
        for d in range(1, 64):
            for k in range(1, 40):
                self.check(row(d, 2), k)

    def test_4000_digits(self):
        source = some(67)
        for base in (2, 10 ** 6):
            self.check(some_row(source, base, 4000), 4000)
            self.check((base, (base - 1,) * 4000), 4000)
            self.check((base, (0,) * 3999 + (1,)), 4000)
            self.check((base, (1,)), 4000)
            self.check(some_row(source, base, 4000), 1)


class Divisions(unittest.TestCase):  # [20]
    def check(self, one, divisor):
        quotient, rest = divmod(number(one), number(divisor))
        self.assertEqual(divided_fast(one, divisor), (row(quotient, one[0]), row(rest, one[0])))

    def test_divisions(self):
        source = some(71)
        for base in (2, 3, 10, 10 ** 6):
            for m in (0, 1, 2, 5, 12, 40):
                for n in (1, 2, 3, 12, 39):
                    for _ in range(5):
                        divisor = some_row(source, base, n)
                        self.check(some_row(source, base, m), divisor)
                        product = number(divisor) * source.randrange(1, base ** 3)
                        self.check(row(product, base), divisor)
                        self.check(row(product - 1, base), divisor)

    def test_4000_digits(self):
        source = some(73)
        for base in (2, 10 ** 6):
            full = (base, (base - 1,) * 4000)
            for size in (1, 2, 2000, 3999, 4000):
                self.check(full, some_row(source, base, size))
            self.check(full, full)
            self.check((base, (5 % base or 1,)), full)

    def test_errors_in_sequence(self):
        refused(self, ByNought, {}, divided_fast, (10, (1,)), (10, ()))
        refused(self, ByNought, {}, divided_fast, (10, ()), (10, ()))
        refused(self, NotFit, {}, divided_fast, (10, (1,)), (9, ()))
        refused(self, NotFit, {}, divided_fast, (10, (1,)), (9, (1,)))


class Rests(unittest.TestCase):  # [20]
    def test_rests(self):
        source = some(79)
        for n in (0, 1, 97, 10 ** 40, 10 ** 3000, 10 ** 3000 - 1):
            for size in (0, 1, 2, 3, 7, 100, 499, 500):
                moduli = tuple(source.choice((1, 2, 10 ** 40, source.randrange(1, 10 ** 40))) for _ in range(size))
                self.assertEqual(rests_all(n, moduli), tuple(n % m for m in moduli))

    def test_equal_moduli(self):
        self.assertEqual(rests_all(10 ** 3000, (7,) * 500), (10 ** 3000 % 7,) * 500)
        self.assertEqual(rests_all(5, (1,)), (0,))
        self.assertEqual(rests_all(5, ()), ())
