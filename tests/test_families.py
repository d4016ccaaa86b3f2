import unittest

from numberpapers.families import comes_to_nought, mersenne
from tests.primes import breach, is_prime, right_witness


class Mersenne(unittest.TestCase):  # [43]
    def test_all(self):
        primes = []
        for p in range(3, 601):
            n = 2 ** p - 1
            word, paper = mersenne(p)
            if word == "prime":
                primes.append(p)
                self.assertEqual((paper[0], paper[1], paper[4]), ("lucas", n, ((2, p, ("tried", 2)),)))
                self.assertEqual(len(paper), 5)
                self.assertIsNone(breach(n, paper))
            else:
                self.assertEqual(word, "witness")
                self.assertTrue(right_witness(n, paper), p)
        self.assertEqual(primes, [3, 5, 7, 13, 17, 19, 31, 61, 89, 107, 127, 521])

    def test_the_rule_of_4(self):
        for p in range(3, 600):
            if is_prime(p):
                self.assertIs(comes_to_nought(p, 2 ** p - 1), is_prime(2 ** p - 1))
