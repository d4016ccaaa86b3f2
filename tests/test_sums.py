import unittest

from numberpapers.errors import NotFit, TooSmall
from numberpapers.sums import added, carries, columns, less, times, times_digit
from tests.helpers import number, refused, row, some, some_row


def pairs_of_rows():
    source = some(11)
    for base in (2, 3, 10, 10 ** 6):
        for m in (0, 1, 2, 7, 30):
            for n in (0, 1, 3, 7):
                for _ in range(6):
                    yield base, some_row(source, base, m), some_row(source, base, n)
        yield base, (base, (base - 1,) * 600), (base, (base - 1,) * 600)
        yield base, (base, (base - 1,) * 600), (base, (1,))
        yield base, (base, ()), (base, (base - 1,) * 600)


class Sums(unittest.TestCase):  # [8]
    def test_sums_and_differences(self):
        for base, one, other in pairs_of_rows():
            a, b = number(one), number(other)
            self.assertEqual(added(one, other), row(a + b, base))
            self.assertEqual(added(other, one), row(a + b, base))
            if a >= b:
                self.assertEqual(less(one, other), row(a - b, base))
            else:
                refused(self, TooSmall, {}, less, one, other)

    def test_a_number_less_itself(self):
        self.assertEqual(less((10, (1, 2, 3)), (10, (1, 2, 3))), (10, ()))
        self.assertEqual(less((10, (1, 0, 0, 1)), (10, (2,))), (10, (9, 9, 9)))
        refused(self, TooSmall, {}, less, (10, (1, 2, 3)), (10, (2, 2, 3)))

    def test_carries(self):
        for base, one, other in pairs_of_rows():
            size = max(len(one[1]), len(other[1]))
            a, b = number(one), number(other)
            # A carry out of place k: the endings of k + 1 digits do not add up below base ** (k + 1).
            wanted = []
            for k in range(1, size + 1):
                wanted.append(1 if a % base ** k + b % base ** k >= base ** k else 0)
            self.assertEqual(carries(one, other), tuple(wanted))

    def test_carries_by_hand(self):
        self.assertEqual(carries((10, (5, 9, 3)), (10, (5,))), (1, 1, 0))
        self.assertEqual(carries((10, (9, 9)), (10, (1,))), (1, 1))
        self.assertEqual(carries((2, ()), (2, ())), ())

    def test_unlike_bases_come_first(self):
        for function in (added, less, carries, times, columns):
            refused(self, NotFit, {}, function, (10, ()), (2, (1,)))
            refused(self, NotFit, {}, function, (10, (1,)), (3, (1, 2)))


class Products(unittest.TestCase):  # [8]
    def test_products(self):
        for base, one, other in pairs_of_rows():
            self.assertEqual(times(one, other), row(number(one) * number(other), base))

    def test_by_a_digit(self):
        for base, one, _ in pairs_of_rows():
            for d in {0, 1, 2 % base, base // 2, base - 1}:
                self.assertEqual(times_digit(one, d), row(number(one) * d, base))

    def test_columns(self):
        for base, one, other in pairs_of_rows():
            if max(len(one[1]), len(other[1])) > 30:
                continue
            sums, found = columns(one, other)
            if one[1] == () or other[1] == ():
                self.assertEqual((sums, found), ((), ()))
                continue
            size = len(one[1]) + len(other[1]) - 1
            wanted = [0] * size
            for i in range(len(one[1])):
                for j in range(len(other[1])):
                    wanted[i + j] += one[1][i] * other[1][j]
            self.assertEqual(sums, tuple(wanted))
            ahead = 0
            for k in range(size):
                ahead = (wanted[k] + ahead) // base
                self.assertEqual(found[k], ahead)
            self.assertEqual(len(found), size)

    def test_bounds_of_columns(self):
        for base in (2, 10, 10 ** 6):
            sums, found = columns((base, (base - 1,) * 600), (base, (base - 1,) * 600))
            self.assertEqual(len(sums), 1199)
            self.assertEqual(max(sums), 600 * (base - 1) ** 2)
            self.assertLessEqual(max(found), 600 * (base - 1))

    def test_columns_by_hand(self):
        self.assertEqual(columns((10, (5, 9)), (10, (7,))), ((35, 63), (3, 6)))
        self.assertEqual(columns((10, ()), (10, (7,))), ((), ()))
        self.assertEqual(columns((10, (0, 1)), (10, (0, 0, 1))), ((0, 0, 0, 1), (0, 0, 0, 0)))
