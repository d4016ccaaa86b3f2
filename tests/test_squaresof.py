import unittest

from numberpapers.errors import NotPaper, TooHard, TooMany
from numberpapers.lifting import all_roots
from numberpapers.squaresof import Squares
from tests.helpers import ANY, refused
from tests.judges import P, Q, TOO_HARD, WRONG_KNOWN, tried
from tests.test_soft import soft_prime

PRIME = soft_prime(11)


class SquaresOf(unittest.TestCase):  # [70]
    def test_small_numbers(self):
        for n in list(range(1, 130)) + [243, 256, 343, 360, 512, 720, 729, 1024]:
            squares = Squares(n)
            wanted = {x * x % n for x in range(n)}
            self.assertEqual((squares.modulus, squares.size), (n, len(wanted)))
            for a in range(-n, 2 * n):
                self.assertIs(a in squares, a % n in wanted)
                if n < 40:
                    self.assertEqual(squares(a), all_roots(a % n, n))

    def test_sizes(self):
        for n, size in ((1, 1), (2, 2), (4, 2), (8, 3), (16, 4), (3, 2), (9, 4), (27, 11), (32, 7), (10 ** 12, None)):
            squares = Squares(n)
            if size:
                self.assertEqual(squares.size, size)
            self.assertEqual(squares.modulus, n)
        self.assertEqual(Squares(10 ** 12).size, Squares(2 ** 12).size * Squares(5 ** 12).size)
        self.assertEqual(Squares(PRIME).size, (PRIME + 1) // 2)

    def test_great_moduli(self):
        squares = Squares(10 ** 12)
        self.assertIn(10 ** 400, squares)
        self.assertIn(49, squares)
        self.assertNotIn(48, squares)
        self.assertNotIn(-1, squares)
        self.assertEqual(squares(1), all_roots(1, 10 ** 12))
        self.assertEqual(squares(1 - 10 ** 400), squares(1))
        refused(self, TooMany, {"limit": 5000}, squares, 0)
        squares = Squares(PRIME)
        self.assertEqual([squares(x * x) for x in (0, 5, -7)], [(0,), (5, PRIME - 5), (7, PRIME - 7)])
        self.assertLess(PRIME, 10 ** 12)

    def test_any_value(self):
        squares = Squares(7)
        for value in ANY:
            wanted = type(value) is int and value % 7 in (0, 1, 2, 4)
            self.assertIs(value in squares, wanted, value)
        self.assertIs(True in squares, False)
        self.assertIs(False in squares, False)
        self.assertIs(1 in squares, True)

    def test_equal(self):
        self.assertTrue(Squares(15) == Squares(15))
        self.assertFalse(Squares(15) == Squares(30))
        self.assertTrue(Squares(P * Q, known=tried(P)) == Squares(P * Q, known=tried(2, Q)))
        for value in ANY + (15, (15,), all_roots):
            self.assertIs(Squares(15) == value, False)
            self.assertIs(value == Squares(15), False)

    def test_known(self):
        squares = Squares(P * Q, known=tried(P))
        self.assertEqual(squares.size, (P + 1) // 2 * ((Q + 1) // 2))
        self.assertEqual(squares(4), all_roots(4, P * Q, tried(Q)))
        self.assertIs(4 in squares, True)
        refused(self, TooHard, TOO_HARD, Squares, P * Q)
        refused(self, TooHard, TOO_HARD, Squares, P * Q, known=tried(2))
        for known, place in WRONG_KNOWN:
            for n in (1, 7, P * Q):
                refused(self, NotPaper, {"place": place}, Squares, n, known=known)
        self.assertEqual(Squares(n=9, known=()).size, 4)
        self.assertRaises(TypeError, Squares, 9, ())

    def test_it_never_changes(self):
        squares = Squares(360)
        before = (squares.modulus, squares.size, squares(1))
        for a in range(360):
            squares(a)
            self.assertIs(a in squares, squares(a) != ())
        self.assertEqual((squares.modulus, squares.size, squares(1)), before)
        for name in ("modulus", "size"):
            self.assertRaises(AttributeError, setattr, squares, name, 3)
