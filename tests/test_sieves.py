import unittest

from numberpapers.sieves import next_prime, sieve
from tests.primes import is_prime


class Sieves(unittest.TestCase):  # [42]
    def test_edges(self):
        self.assertEqual(sieve(0), ())
        self.assertEqual(sieve(1), ())
        self.assertEqual(sieve(2), (2,))
        self.assertEqual(sieve(3), (2, 3))
        self.assertEqual(sieve(30), (2, 3, 5, 7, 11, 13, 17, 19, 23, 29))

    def test_all_small_bounds(self):
        for most in range(0, 400):
            self.assertEqual(sieve(most), tuple(n for n in range(most + 1) if is_prime(n)))

    def test_10_to_the_6(self):
        found = sieve(10 ** 6)
        self.assertEqual((len(found), found[-1]), (78498, 999983))
        self.assertEqual(sum(found), 37550402023)

    def test_the_product_is_small(self):
        for n in (0, 1, 2, 3, 10, 100, 500):
            product = 1
            for p in sieve(n):
                product *= p
            self.assertLessEqual(product, 4 ** n)

    def test_next_primes(self):
        for n in list(range(0, 3000)) + [10 ** 6 - 17, 10 ** 6 - 18, 10 ** 6, 10 ** 9 - 63, 10 ** 9 - 64, 10 ** 9]:
            found = next_prime(n)
            self.assertTrue(found > n and is_prime(found))
            self.assertFalse(any(is_prime(k) for k in range(n + 1, found)))
            if n >= 1:
                self.assertLessEqual(found, 2 * n)
        self.assertEqual((next_prime(0), next_prime(1), next_prime(2), next_prime(10 ** 9)), (2, 2, 3, 10 ** 9 + 7))
        self.assertEqual(next_prime(436273009), 436273291)
