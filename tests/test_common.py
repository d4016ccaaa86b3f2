import math
import unittest

from numberpapers.common import combined, common_part, lowest, of_quotients, quotients
from numberpapers.errors import NotRow
from tests.helpers import refused, some

GREAT = 10 ** 400 - 1


def pairs():
    source = some(89)
    for a in range(-30, 31):
        for b in range(-30, 31):
            yield a, b
    for _ in range(60):
        g = source.randrange(1, 10 ** 100)
        yield g * source.randrange(-10 ** 300, 10 ** 300), g * source.randrange(-10 ** 300, 10 ** 300)
    for a in (GREAT, -GREAT, 0, 1, -1):
        for b in (GREAT, -GREAT, 0, 1, -1, GREAT - 1):
            yield a, b


class CommonParts(unittest.TestCase):  # [23]
    def test_common_part(self):
        for a, b in pairs():
            self.assertEqual(common_part(a, b), math.gcd(a, b))
        self.assertEqual(common_part(0, 0), 0)

    def test_combined(self):
        for a, b in pairs():
            g, x, y = combined(a, b)
            self.assertEqual(g, math.gcd(a, b))
            self.assertEqual(a * x + b * y, g)
            if b == 0:
                self.assertEqual((x, y), ((a > 0) - (a < 0), 0))
            else:
                self.assertTrue(0 <= x < abs(b) // g)

    def test_lowest(self):
        self.assertEqual(lowest(-6, 4), (-3, 2))
        self.assertEqual(lowest(0, 4), (0, 1))


class Quotients(unittest.TestCase):  # [24]
    def test_by_their_words(self):
        for a, b in pairs():
            a, b = abs(a), abs(b)
            wanted = []
            first, second = a, b
            while second:
                wanted.append(first // second)
                first, second = second, first % second
            self.assertEqual(quotients(a, b), tuple(wanted))
            if b:
                g = math.gcd(a, b)
                self.assertEqual(of_quotients(tuple(wanted)), (a // g, b // g))
        self.assertEqual(quotients(5, 0), ())
        self.assertEqual(quotients(0, 5), (0,))
        self.assertEqual(of_quotients(()), (1, 0))
        self.assertEqual(of_quotients((0,)), (0, 1))
        self.assertEqual(of_quotients((1,)), (1, 1))

    def test_least_numbers_with_so_many(self):
        f = [0, 1]
        while len(f) < 2500:
            f.append(f[-1] + f[-2])
        for n in range(1, 450):
            a, b = f[n + 2], f[n + 1]
            if a > b:
                self.assertEqual(len(quotients(a, b)), n)
        for a, b in pairs():
            if a > b >= 1:
                self.assertGreaterEqual(b, f[len(quotients(a, b)) + 1] * math.gcd(a, b))

    def test_great_rows(self):
        for value in ((10 ** 100 - 1,) * 400, (0,) + (1,) * 398 + (2,), (2,) * 400):
            a, b = of_quotients(value)
            self.assertEqual(quotients(a, b), value)
            self.assertEqual(math.gcd(a, b), 1)

    def test_wrong_rows(self):
        for value, place in (
            ((-1,), 0), ((-1, 0), 0), ((0, 0, 2), 1), ((3, 2, 0, 1), 2), ((3, -5, 0), 1), ((3, 2, 1), 2), ((0, 1), 1),
            ((1, 1), 1), ((5, 0, 1), 1), ((5, 4, 3, -1), 3), ((-(10 ** 99), 1), 0), ((2, 1, 1), 2), ((0,) * 400, 1),
        ):
            refused(self, NotRow, {"place": place}, of_quotients, value)
