import unittest

from numberpapers.digits import compare, cut, ending, need_row, number_of, row_of, shifted
from numberpapers.errors import NotFit, NotRow
from tests.helpers import ANY, changed, number, refused, row, some, some_row

BASES = (2, 3, 10, 999, 10 ** 6)


class NeedRow(unittest.TestCase):  # [6]
    def test_rows_are_returned(self):
        for value in ((2, ()), (10 ** 6, ()), (2, (1,)), (10, (0, 0, 1)), (10 ** 6, (0, 10 ** 6 - 1)), (7, (6,) * 4000)):
            self.assertIs(need_row(value), value)

    def test_wrong_forms(self):
        forms = [[10, (1,)], (10,), (10, (1,), 2), (), "10", None, 10, (10, [1]), (10, "12"), (10, None), ((1,), 10)]
        bases = [1, 0, -2, 10 ** 6 + 1, 10 ** 400, True, False, None, 10.0, "10", (10,)]
        for value in forms + [(base, ()) for base in bases] + [(base, (5, True)) for base in bases]:
            refused(self, NotRow, {"place": -1}, need_row, value)

    def test_too_many_digits_come_ahead_of_wrong_ones(self):
        refused(self, NotRow, {"place": -1}, need_row, (10, (1,) * 4001))
        refused(self, NotRow, {"place": -1}, need_row, (10, ("x",) * 4001))
        refused(self, NotRow, {"place": 0}, need_row, (10, ("x",) * 4000))

    def test_wrong_digits(self):
        for bad in (10, -1, True, False, None, 1.0, "1", (1,), [1], 10 ** 400):
            for place in range(4):
                digits = [1, 0, 9, 3]
                digits[place] = bad
                refused(self, NotRow, {"place": place}, need_row, (10, tuple(digits)))
        refused(self, NotRow, {"place": 1}, need_row, (10, (3, 11, None, 0)))
        refused(self, NotRow, {"place": 0}, need_row, (2, (2, 1)))

    def test_a_nought_at_the_end(self):
        refused(self, NotRow, {"place": 1}, need_row, (10, (0,)))
        refused(self, NotRow, {"place": 3}, need_row, (10, (1, 2, 0)))
        refused(self, NotRow, {"place": 4000}, need_row, (10, (1,) * 3999 + (0,)))
        refused(self, NotRow, {"place": 2}, need_row, (10, (1, 2, "0")))

    def test_any_value(self):
        for value in ANY:
            self.assertRaises(NotRow, need_row, value)
        for value in changed((10, (1, 2, 3))):
            try:
                self.assertIs(need_row(value), value)
                self.assertIs(type(value), tuple)
                self.assertEqual(value, row(number(value), value[0]))
            except NotRow:
                pass


class Numbers(unittest.TestCase):  # [6]
    def test_there_and_back(self):
        for base in BASES:
            for n in list(range(60)) + [base, base - 1, base ** 2, base ** 7 - 1, 10 ** 180, 10 ** 180 - 1]:
                self.assertEqual(row_of(n, base), row(n, base))
                self.assertEqual(number_of(row_of(n, base)), n)

    def test_the_row_of_nought(self):
        self.assertEqual(row_of(0, 10), (10, ()))
        self.assertEqual(number_of((2, ())), 0)

    def test_each_row_is_that_of_its_number(self):
        for base in (2, 3):
            rows = {row_of(n, base) for n in range(200)}
            self.assertEqual(len(rows), 200)
            for value in rows:
                self.assertIs(need_row(value), value)

    def test_600_digits(self):
        for base in BASES:
            self.assertEqual(number_of((base, (base - 1,) * 600)), base ** 600 - 1)


class Orders(unittest.TestCase):  # [7]
    def test_compare(self):
        for base in BASES:
            numbers = [0, 1, base - 1, base, base + 1, base ** 2 - 1, base ** 2, base ** 599, base ** 600 - 1]
            for a in numbers:
                for b in numbers:
                    wanted = (a > b) - (a < b)
                    self.assertEqual(compare(row(a, base), row(b, base)), wanted)

    def test_compare_looks_at_the_greatest_place_first(self):
        self.assertEqual(compare((10, (9, 1)), (10, (1, 2))), -1)
        self.assertEqual(compare((10, (1, 2)), (10, (9, 1))), 1)

    def test_unlike_bases(self):
        refused(self, NotFit, {}, compare, (10, ()), (2, ()))
        refused(self, NotFit, {}, compare, (10, (1,)), (11, (1,)))

    def test_shifts(self):
        source = some(7)
        for base in BASES:
            for size in (0, 1, 2, 5, 600):
                one = some_row(source, base, size)
                n = number(one)
                for k in (0, 1, 2, 4, 5, 599, 600):
                    self.assertEqual(shifted(one, k), row(n * base ** k, base))
                    self.assertEqual(cut(one, k), row(n // base ** k, base))
                    self.assertEqual(ending(one, k), row(n % base ** k, base))

    def test_endings_with_noughts(self):
        self.assertEqual(ending((10, (1, 0, 0, 5)), 3), (10, (1,)))
        self.assertEqual(ending((10, (0, 0, 0, 5)), 3), (10, ()))
        self.assertEqual(shifted((10, ()), 600), (10, ()))
