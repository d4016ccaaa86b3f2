import itertools
import unittest
from fractions import Fraction

from numberpapers.bases import balanced, fraction, mixed, of_balanced, of_mixed, rebased
from numberpapers.errors import NotRow, TooGreat
from tests.helpers import ANY, changed, number, refused, row, some, some_row


class Rebased(unittest.TestCase):  # [12]
    def test_other_bases(self):
        source = some(29)
        for base in (2, 3, 10, 10 ** 6):
            for size in (0, 1, 2, 20):
                one = some_row(source, base, size)
                for other in (2, 7, 10, 10 ** 6, base):
                    self.assertEqual(rebased(one, other), row(number(one), other))
                self.assertEqual(rebased(one, base), one)

    def test_600_digits(self):
        one = (10 ** 6, (999999,) * 600)
        self.assertEqual(rebased(one, 2), row(10 ** 3600 - 1, 2))
        self.assertEqual(rebased((2, (1,) * 600), 10 ** 6), row(2 ** 600 - 1, 10 ** 6))


class Mixed(unittest.TestCase):  # [13]
    def test_all_numbers_below_the_product(self):
        for bases in ((2,), (3, 2), (2, 5, 3), (10, 2, 2, 4)):
            ways = itertools.product(*[range(base) for base in bases])
            found = {}
            for digits in ways:
                n = 0
                for digit, base in zip(digits[::-1], bases[::-1]):
                    n = n * base + digit
                found[n] = digits
            for n in range(len(found)):
                self.assertEqual(mixed(n, bases), found[n])
                self.assertEqual(of_mixed(bases, found[n]), n)
            refused(self, TooGreat, {}, mixed, len(found), bases)

    def test_edges(self):
        self.assertEqual(mixed(0, (10 ** 6,)), (0,))
        bases = (10 ** 6,) * 30
        self.assertEqual(mixed(10 ** 180 - 1, bases), (10 ** 6 - 1,) * 30)
        refused(self, TooGreat, {}, mixed, 10 ** 180, bases)
        self.assertEqual(mixed(10 ** 180, bases + (2,)), (0,) * 30 + (1,))
        self.assertEqual(mixed(2 ** 40 - 1, (2,) * 40), (1,) * 40)
        refused(self, TooGreat, {}, mixed, 2 ** 40, (2,) * 40)

    def test_wrong_rows(self):
        bases = (7, 2, 10)
        for value in ((), (1, 1), (1, 1, 1, 1), [1, 1, 1], "111", None, 5):
            refused(self, NotRow, {"place": -1}, of_mixed, bases, value)
        for place in range(3):
            for bad in (bases[place], -1, True, False, None, "1", 1.0, (1,), 10 ** 400):
                digits = (1,) * place + (bad,) + (100,) * (2 - place)
                refused(self, NotRow, {"place": place}, of_mixed, bases, digits)
        self.assertEqual(of_mixed(bases, (0, 0, 0)), 0)

    def test_any_value(self):
        for value in list(ANY) + list(changed((6, 1, 9))):
            try:
                self.assertEqual(mixed(of_mixed((7, 2, 10), value), (7, 2, 10)), value)
            except NotRow:
                pass


class Balanced(unittest.TestCase):  # [14]
    def test_there_and_back(self):
        for base in (3, 5, 11, 999999):
            h = (base - 1) // 2
            for n in list(range(-200, 200)) + [h, h + 1, -h, -h - 1, 10 ** 180, -(10 ** 180)]:
                digits = balanced(n, base)
                self.assertIs(type(digits), tuple)
                self.assertTrue(all(-h <= digit <= h for digit in digits))
                self.assertTrue(not digits or digits[-1] != 0)
                self.assertEqual(sum(digit * base ** k for k, digit in enumerate(digits)), n)
                self.assertEqual(of_balanced(base, digits), n)
            self.assertEqual(balanced(0, base), ())
            self.assertEqual(of_balanced(base, ()), 0)

    def test_by_hand(self):
        self.assertEqual(balanced(5, 3), (-1, -1, 1))
        self.assertEqual(balanced(-5, 3), (1, 1, -1))
        self.assertEqual(of_balanced(3, (0, 1, -1)), -6)

    def test_wrong_rows(self):
        for value in ([1], "1", None, 3, (1,) * 401, ("x",) * 401):
            refused(self, NotRow, {"place": -1}, of_balanced, 5, value)
        self.assertEqual(of_balanced(5, (1,) * 400), (5 ** 400 - 1) // 4)
        for bad in (3, -3, True, False, None, 1.0, "1", (1,)):
            refused(self, NotRow, {"place": 1}, of_balanced, 5, (2, bad, 9, 0))
        refused(self, NotRow, {"place": 1}, of_balanced, 5, (0,))
        refused(self, NotRow, {"place": 3}, of_balanced, 5, (1, -2, 0))

    def test_any_value(self):
        for value in list(ANY) + list(changed((1, -2, 2))):
            try:
                self.assertEqual(balanced(of_balanced(5, value), 5), value)
            except NotRow:
                pass


def worth(told, base):
    """The number that a whole row, the digits ahead and those again and again stand for."""
    whole, ahead, again = told
    total = Fraction(number(whole))
    for k, digit in enumerate(ahead, 1):
        total += Fraction(digit, base ** k)
    if again:
        top = 0
        for digit in again:
            top = top * base + digit
        total += Fraction(top, base ** len(again) - 1) / base ** len(ahead)
    return total


class Fractions(unittest.TestCase):  # [15]
    def test_small_ones(self):
        for base in (2, 3, 10, 12, 10 ** 6):
            for a in (0, 1, 2, 7, 30, 45):
                for c in range(1, 46):
                    self.check(a, c, base)

    def check(self, a, c, base):
        whole, ahead, again = fraction(a, c, base)
        self.assertEqual(whole, row(a // c, base))
        self.assertTrue(all(0 <= digit < base for digit in ahead + again))
        self.assertEqual(worth((whole, ahead, again), base), Fraction(a, c))
        self.assertLessEqual(len(ahead) + len(again), c)
        if not again:
            self.assertTrue(not ahead or ahead[-1] != 0)
            return
        self.assertNotEqual(set(again), {base - 1})
        self.assertTrue(not ahead or ahead[-1] != again[-1])
        for size in range(1, len(again)):
            if len(again) % size == 0:
                self.assertNotEqual(again, again[:size] * (len(again) // size))

    def test_by_hand(self):
        self.assertEqual(fraction(1, 3, 10), ((10, ()), (), (3,)))
        self.assertEqual(fraction(7, 12, 10), ((10, ()), (5, 8), (3,)))
        self.assertEqual(fraction(13, 8, 10), ((10, (1,)), (6, 2, 5), ()))
        self.assertEqual(fraction(24, 2, 10), ((10, (2, 1)), (), ()))
        self.assertEqual(fraction(0, 5, 10), ((10, ()), (), ()))
        self.assertEqual(fraction(1, 7, 10)[2], (1, 4, 2, 8, 5, 7))

    def test_great_ones(self):
        for a, c, base in ((10 ** 40, 10 ** 5, 2), (10 ** 40 - 1, 99989, 10), (1, 10 ** 5, 3), (12345, 65536, 2)):
            whole, ahead, again = fraction(a, c, base)
            self.assertEqual(whole, row(a // c, base))
            rest = a % c
            for digit in ahead:
                self.assertEqual(digit, rest * base // c)
                rest = rest * base % c
            begin = rest
            for digit in again:
                self.assertEqual(digit, rest * base // c)
                rest = rest * base % c
            self.assertEqual(rest, begin)
            self.assertLessEqual(len(ahead) + len(again), c)

    def test_the_longest_round(self):
        # 10 has the order 99988 modulo the prime 99989.
        whole, ahead, again = fraction(1, 99989, 10)
        self.assertEqual((whole, ahead, len(again)), ((10, ()), (), 99988))
