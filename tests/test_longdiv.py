import unittest

from numberpapers.errors import ByNought, NotFit, TooShort
from numberpapers.longdiv import divided, divided_digit, division_sheet, is_division_sheet, power_rest
from tests.helpers import ANY, changed, differs, number, refused, row, some, some_row


def digit_of(n, base, k):
    return n // base ** k % base


def sheet(one, divisor):
    """The sheet, by the words of [10], with numbers."""
    base = one[0]
    n = len(divisor[1])
    d = base // (divisor[1][-1] + 1)
    u, v = d * number(one), d * number(divisor)
    steps = []
    for j in range(len(one[1]) - n, -1, -1):
        part = u // base ** j if not steps else rest * base + digit_of(u, base, j)
        head = digit_of(part, base, n) * base + digit_of(part, base, n - 1)
        first, second = digit_of(v, base, n - 1), digit_of(v, base, n - 2)
        trial = min(base - 1, head // first)
        lowered = 0
        while True:
            t = trial - lowered
            if t * second <= base * (head - t * first) + digit_of(part, base, n - 2):
                break
            lowered += 1
        digit, rest = divmod(part, v)
        steps.append((trial, lowered, digit, row(rest, base)))
    return ("sheet", d, tuple(steps))


def divisions():
    source = some(13)
    for base in (2, 3, 10, 1000, 10 ** 6):
        for m in (0, 1, 2, 3, 5, 9, 24):
            for n in (2, 3, 5, 9):
                for _ in range(12):
                    yield some_row(source, base, m), some_row(source, base, n)
        yield (base, (base - 1,) * 600), (base, (base - 1,) * 2)
        yield (base, (base - 1,) * 600), (base, (1,) + (0,) * 298 + (1,))
        yield (base, (base - 1,) * 600), (base, (base - 1,) * 600)
    # Here 1 has to be taken from the digit although nothing was lowered.
    yield row(10 ** 12 - 1, 10), row(50005, 10)


class Divisions(unittest.TestCase):  # [9]
    def test_by_a_digit(self):
        source = some(17)
        for base in (2, 3, 10, 10 ** 6):
            for size in (0, 1, 2, 9, 600):
                one = some_row(source, base, size)
                for d in {1, 2 % base or 1, base // 2, base - 1}:
                    quotient, rest = divmod(number(one), d)
                    self.assertEqual(divided_digit(one, d), (row(quotient, base), rest))
                refused(self, ByNought, {}, divided_digit, one, 0)

    def test_by_rows(self):
        source = some(19)
        for one, divisor in divisions():
            quotient, rest = divmod(number(one), number(divisor))
            self.assertEqual(divided(one, divisor), (row(quotient, one[0]), row(rest, one[0])))
            short = some_row(source, one[0], 1)
            quotient, rest = divmod(number(one), number(short))
            self.assertEqual(divided(one, short), (row(quotient, one[0]), row(rest, one[0])))

    def test_errors_in_sequence(self):
        refused(self, ByNought, {}, divided, (10, (1,)), (10, ()))
        refused(self, ByNought, {}, divided, (10, ()), (10, ()))
        refused(self, NotFit, {}, divided, (10, (1,)), (11, ()))
        refused(self, NotFit, {}, division_sheet, (10, (1,)), (11, (1,)))
        refused(self, NotFit, {}, is_division_sheet, (10, (1,)), (11, (1, 1)), ())
        refused(self, NotFit, {}, power_rest, (10, (1,)), 3, (11, ()))
        refused(self, TooShort, {}, division_sheet, (10, (1, 2)), (10, (3,)))
        refused(self, TooShort, {}, division_sheet, (10, (1, 2)), (10, ()))


class Sheets(unittest.TestCase):  # [10]
    def test_sheets(self):
        lowered = set()
        off = set()
        for one, divisor in divisions():
            found = division_sheet(one, divisor)
            self.assertEqual(found, sheet(one, divisor))
            self.assertTrue(is_division_sheet(one, divisor, found))
            for trial, low, digit, _ in found[2]:
                lowered.add(low)
                off.add(trial - low - digit)
                self.assertTrue(trial - 2 <= digit <= trial)
        self.assertEqual((lowered, off), ({0, 1, 2}, {0, 1}))

    def test_what_the_steps_tell(self):
        for one, divisor in divisions():
            _, d, steps = division_sheet(one, divisor)
            if len(one[1]) < len(divisor[1]):
                self.assertEqual(steps, ())
                continue
            quotient, rest = divmod(number(one), number(divisor))
            self.assertEqual(number((one[0], tuple(step[2] for step in steps)[::-1])), quotient)
            self.assertEqual(number(steps[-1][3]), d * rest)

    def test_any_value_as_sheet(self):
        for one, divisor in ((row(98765, 10), row(432, 10)), (row(7, 10), row(43, 10)), (row(0, 2), row(2, 2))):
            right = division_sheet(one, divisor)
            for value in list(ANY) + list(changed(right)):
                self.assertIs(is_division_sheet(one, divisor, value), not differs(value, right), value)
            self.assertIs(is_division_sheet(one, divisor, right), True)
            self.assertIs(is_division_sheet(one, divisor, list(right)), False)


class Powers(unittest.TestCase):  # [11]
    def test_powers(self):
        source = some(23)
        for base in (2, 10, 10 ** 6):
            for size in (0, 1, 3, 40):
                one = some_row(source, base, size)
                for modulus in (some_row(source, base, 1), some_row(source, base, 5), (base, (1,))):
                    for k in (0, 1, 2, 3, 10, 12345, 10 ** 60):
                        wanted = pow(number(one), k, number(modulus))
                        self.assertEqual(power_rest(one, k, modulus), row(wanted, base))

    def test_600_digits(self):
        one, modulus = (10 ** 6, (999999,) * 600), (10 ** 6, (3,) + (0,) * 598 + (7,))
        wanted = pow(number(one), 10 ** 60, number(modulus))
        self.assertEqual(power_rest(one, 10 ** 60, modulus), row(wanted, 10 ** 6))

    def test_noughts_and_ones(self):
        self.assertEqual(power_rest((10, ()), 0, (10, (7,))), (10, (1,)))
        self.assertEqual(power_rest((10, ()), 0, (10, (1,))), (10, ()))
        self.assertEqual(power_rest((10, (5,)), 0, (10, (1,))), (10, ()))
        self.assertEqual(power_rest((10, ()), 5, (10, (7,))), (10, ()))
        refused(self, ByNought, {}, power_rest, (10, (5,)), 0, (10, ()))
