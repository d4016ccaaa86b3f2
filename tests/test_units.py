import math
import unittest

from numberpapers.errors import NotPaper, TooHard
from numberpapers.units import unit_count, unit_exponent, units_of
from tests.helpers import refused
from tests.judges import P, Q, TOO_HARD, WRONG_KNOWN, order, told_by, tried
from tests.unitcases import GREATS, LACKING, NEEDED, cases, count_parts, is_told, number, smalls


class Units(unittest.TestCase):  # [55], [56]
    def test_small_numbers(self):
        for n, units in smalls():
            self.assertEqual(units_of(n), tuple(units))
            self.assertEqual(unit_count(n), len(units))
            self.assertEqual(unit_exponent(n), math.lcm(*[order(a, n) for a in units]))

    def test_edges(self):
        self.assertEqual([(units_of(n), unit_count(n), unit_exponent(n)) for n in (2, 4)], [((1,), 1, 1), ((1, 3), 2, 2)])
        self.assertEqual((unit_count(8), unit_exponent(8)), (4, 2))
        for n in (9973, 9999, 10000, 8192, 6561):
            self.assertEqual(units_of(n), tuple(a for a in range(n) if math.gcd(a, n) == 1))
            self.assertEqual(len(units_of(n)), unit_count(n))
        for k in range(3, 133):
            self.assertEqual((unit_count(2 ** k), unit_exponent(2 ** k)), (2 ** (k - 1), 2 ** (k - 2)))
        for k in range(1, 60):
            self.assertEqual((unit_count(3 ** k), unit_exponent(2 * 3 ** k)), (2 * 3 ** (k - 1),) * 2)

    def test_great_numbers(self):
        for parts, known in cases():
            n = number(parts)
            self.assertTrue(is_told(parts, known))
            counts = [count for count, _ in count_parts(parts, known)]
            self.assertEqual(unit_count(n, known), math.prod(counts))
            if parts[0][0] == 2 and parts[0][1] > 2:
                counts[0] //= 2
            self.assertEqual(unit_exponent(n, known), math.lcm(*counts))
        self.assertGreater(max(number(parts) for parts in GREATS), 5 * 10 ** 39)

    def test_what_is_not_told(self):
        for parts, known in LACKING:
            self.assertFalse(is_told(parts, known))
            for function in (unit_count, unit_exponent):
                refused(self, TooHard, TOO_HARD, function, number(parts), known)
        for parts, _ in NEEDED:
            for function in (unit_count, unit_exponent):
                refused(self, TooHard, TOO_HARD, function, number(parts))
        self.assertFalse(told_by(P * Q, ()))

    def test_wrong_papers_come_first(self):
        for known, place in WRONG_KNOWN:
            for n in (2, P * Q, 10 ** 40):
                for function in (unit_count, unit_exponent):
                    refused(self, NotPaper, {"place": place}, function, n, known)
        self.assertEqual(unit_count(n=P, known=tried(2, 3)), P - 1)
