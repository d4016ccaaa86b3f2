import unittest

from numberpapers.errors import NotFit
from numberpapers.products import three_count, times_five, times_three
from numberpapers.transforms import times_rests, times_shifts
from tests.helpers import number, refused, row, some, some_row

ROADS = (times_three, times_five, times_rests, times_shifts)


class Products(unittest.TestCase):  # [17]
    def check(self, one, other):
        wanted = row(number(one) * number(other), one[0])
        for road in ROADS:
            self.assertEqual(road(one, other), wanted, road.__name__)

    def test_short_rows(self):
        source = some(37)
        for base in (2, 3, 10, 10 ** 6):
            for m in (0, 1, 2, 3, 5, 8):
                for n in (0, 1, 2, 4, 9):
                    self.check(some_row(source, base, m), some_row(source, base, n))

    def test_rows_of_any_lengths(self):
        source = some(41)
        sizes = (1, 31, 32, 33, 34, 63, 64, 65, 66, 67, 97, 98, 99, 100, 129, 200)
        for base in (2, 10 ** 6):
            for m in sizes:
                for n in sizes:
                    one, other = some_row(source, base, m), some_row(source, base, n)
                    wanted = row(number(one) * number(other), base)
                    self.assertEqual(times_three(one, other), wanted, (m, n))
                    self.assertEqual(times_five(one, other), wanted, (m, n))
                    self.assertEqual(times_shifts(one, other), wanted, (m, n))
            for m, n in ((31, 34), (64, 64), (64, 65), (65, 65), (128, 129), (1, 200), (0, 200)):
                one, other = some_row(source, base, m), some_row(source, base, n)
                self.assertEqual(times_rests(one, other), row(number(one) * number(other), base), (m, n))

    def test_4000_digits(self):
        source = some(43)
        for base in (2, 10 ** 6):
            full = (base, (base - 1,) * 4000)
            self.check(full, full)
            self.check(full, (base, (1,)))
            self.check(full, (base, ()))
            self.check(some_row(source, base, 4000), some_row(source, base, 3999))
            self.check(some_row(source, base, 2000), some_row(source, base, 4000))
            self.check((base, (0,) * 3999 + (1,)), (base, (0,) * 3999 + (base - 1,)))

    def test_unlike_bases(self):
        for road in ROADS:
            refused(self, NotFit, {}, road, (10, (1, 2)), (11, (1, 2)))
            refused(self, NotFit, {}, road, (10, ()), (2, ()))


class ThreeCount(unittest.TestCase):  # [17]
    def test_by_its_words(self):
        known = {}
        for total in range(0, 130):
            for m in range(total + 1):
                n = total - m
                if m == 0 or n == 0:
                    known[m, n] = 0
                elif m == n == 1:
                    known[m, n] = 1
                else:
                    h = -(-max(m, n) // 2)
                    m0, n0 = min(m, h), min(n, h)
                    known[m, n] = 2 * known[m0, n0] + known[m - m0, n - n0]
        for (m, n), wanted in known.items():
            self.assertEqual(three_count(m, n), wanted)

    def test_bounds(self):
        for m, n in ((4000, 4000), (4000, 1), (1, 4000), (2049, 3), (4096, 4096), (1025, 1024), (33, 32)):
            k = (max(m, n) - 1).bit_length()
            self.assertLessEqual(three_count(m, n), 3 ** k)
        self.assertEqual(three_count(4096, 4096), 3 ** 12)
        self.assertEqual(three_count(0, 0), 0)
        self.assertEqual(three_count(4000, 0), 0)
        self.assertEqual(three_count(2, 2), 3)
        self.assertEqual(three_count(2, 1), 2)
        self.assertEqual(three_count(3, 2), 2 * 3 + 0)
