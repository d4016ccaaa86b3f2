import unittest

from numberpapers.lucas import lucas_at
from tests.primes import lucas


class Lucas(unittest.TestCase):  # [37]
    def test_by_its_words(self):
        for n in (3, 5, 9, 15, 101):
            for P in range(0, n, max(1, n // 7)):
                for Q in range(0, n, max(1, n // 7)):
                    U, V = [0, 1], [2, P]
                    for k in range(40):
                        self.assertEqual(lucas_at(P, Q, k, n), (U[k] % n, V[k] % n))
                        U.append(P * U[-1] - Q * U[-2])
                        V.append(P * V[-1] - Q * V[-2])

    def test_great_ones(self):
        for n in (10 ** 300 - 1, 10 ** 40 + 1, 3):
            for k in (10 ** 300, 2 ** 1000 - 1, 10 ** 40 + 7):
                for P, Q in ((0, 0), (1, n - 1), (n - 1, n - 1), (n // 2, n // 3), (0, 1), (2, 1)):
                    self.assertEqual(lucas_at(P, Q, k, n), lucas(P, Q, k, n))

    def test_fibonacci(self):
        self.assertEqual(lucas_at(1, 10 ** 9 + 6, 30, 10 ** 9 + 7), (832040, 1860498))
        self.assertEqual(lucas_at(2, 1, 10 ** 6, 10 ** 9 + 7), (10 ** 6, 2))
