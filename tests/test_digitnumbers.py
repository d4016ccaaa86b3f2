import unittest

from numberpapers.digitnumbers import Digits
from numberpapers.digits import need_row
from numberpapers.errors import ByNought, NotFit, NotRow, TooSmall
from tests.helpers import ANY, attributes, number, refused, row, some, some_row


class DigitsTest(unittest.TestCase):  # [16]
    def test_properties(self):
        for base in (2, 10, 10 ** 6):
            for n in (0, 1, base - 1, base, 10 ** 180):
                made = Digits.of(n, base)
                self.assertEqual((made.row, made.base, made.number), (row(n, base), base, n))
                self.assertEqual(Digits(row(n, base)), made)
                self.assertIs(type(made), Digits)

    def test_600_digits(self):
        made = Digits((10, (9,) * 600))
        self.assertEqual((made.number, len(made)), (10 ** 600 - 1, 600))

    def test_any_value(self):
        for value in ANY:
            try:
                need_row(value)
            except NotRow as error:
                refused(self, NotRow, attributes(error), Digits, value)
        refused(self, NotRow, {"place": -1}, Digits, [10, (1,)])
        refused(self, NotRow, {"place": 1}, Digits, (10, (1, 10)))
        refused(self, NotRow, {"place": 2}, Digits, (10, (1, 0)))

    def test_reckoning(self):
        source = some(31)
        for base in (2, 3, 10, 10 ** 6):
            for m in (0, 1, 2, 5, 20):
                for n in (0, 1, 2, 4, 20):
                    one, other = some_row(source, base, m), some_row(source, base, n)
                    a, b, first, second = number(one), number(other), Digits(one), Digits(other)
                    self.assertEqual(first.plus(second), Digits.of(a + b, base))
                    self.assertEqual(first.times(second), Digits.of(a * b, base))
                    if a >= b:
                        self.assertEqual(first.minus(second), Digits.of(a - b, base))
                    else:
                        refused(self, TooSmall, {}, first.minus, second)
                    if b > 0:
                        self.assertEqual(first.divided_by(second), Digits.of(a // b, base))
                        self.assertEqual(first.rest_by(second), Digits.of(a % b, base))
                    else:
                        refused(self, ByNought, {}, first.divided_by, second)
                        refused(self, ByNought, {}, first.rest_by, second)
                    self.assertEqual((first.row, second.row), (one, other))

    def test_results_of_more_than_600_digits(self):
        great = Digits((10 ** 6, (999999,) * 600))
        self.assertEqual(great.times(great).number, great.number ** 2)
        self.assertEqual(great.plus(great).number, 2 * great.number)

    def test_unlike_bases_come_first(self):
        for word in ("plus", "minus", "times", "divided_by", "rest_by"):
            refused(self, NotFit, {}, getattr(Digits.of(1, 10), word), Digits.of(0, 9))
            self.assertEqual(
                getattr(Digits.of(6, 10), word)(other=Digits.of(4, 10)),
                getattr(Digits.of(6, 10), word)(Digits.of(4, 10)),
            )

    def test_equality(self):
        one = Digits((10, (1, 2)))
        self.assertIs(one == Digits((10, (1, 2))), True)
        self.assertIs(one == Digits.of(21, 10), True)
        for other in [Digits((11, (1, 2))), Digits((10, (2, 1))), Digits.of(0, 10), (10, (1, 2)), 21, (1, 2)] + list(ANY):
            self.assertIs(one == other, False)
            self.assertIs(one != other, True)

    def test_length_and_iteration(self):
        self.assertEqual(len(Digits((10, (0, 1, 2)))), 3)
        self.assertEqual(list(Digits((10, (0, 1, 2)))), [0, 1, 2])
        self.assertEqual((len(Digits.of(0, 2)), list(Digits.of(0, 2))), (0, []))
        made = Digits((10, (3, 4)))
        self.assertEqual([list(made), list(made)], [[3, 4], [3, 4]])
        self.assertEqual([(a, b) for a in made for b in made], [(3, 3), (3, 4), (4, 3), (4, 4)])

    def test_it_never_changes(self):
        made = Digits.of(345, 10)
        for word in ("row", "base", "number"):
            with self.assertRaises(AttributeError):
                setattr(made, word, 7)

    def test_listed_in_the_class_itself(self):
        listed = "of row base number plus minus times divided_by rest_by __eq__ __len__ __iter__ __init__".split()
        self.assertLessEqual(set(listed), set(vars(Digits)))
        self.assertIsInstance(vars(Digits)["of"], staticmethod)
        for word in ("row", "base", "number"):
            self.assertIsInstance(vars(Digits)[word], property)
