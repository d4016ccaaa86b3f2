import unittest

from numberpapers.powers import power, raised, raised_upto


class Powers(unittest.TestCase):  # [33]
    def test_small_ones(self):
        for n in range(1, 14):
            for a in range(0, 30):
                for e in range(0, 12):
                    self.assertEqual(power(a, e, n), a ** e % n)

    def test_noughts_and_ones(self):
        self.assertEqual(power(0, 0, 7), 1)
        self.assertEqual(power(0, 0, 1), 0)
        self.assertEqual(power(5, 0, 1), 0)
        self.assertEqual(power(0, 10 ** 60, 7), 0)

    def test_great_ones(self):
        for a in (2, 10 ** 300 - 1, 10 ** 400):
            for e in (10 ** 60, 10 ** 300 - 1, 2 ** 997):
                for n in (2, 10 ** 300 - 153, 2 ** 512, 3 ** 600):
                    self.assertEqual(power(a, e, n), pow(a, e, n))

    def test_plain_powers(self):
        for a in (-2, 0, 1, 2, 7, 10 ** 6):
            for e in (0, 1, 2, 3, 10, 61):
                self.assertEqual(raised(a, e), a ** e)
        for a in (0, 1, 2, 7):
            for e in range(9):
                for most in (0, 1, 10, 1000):
                    if a ** e <= most:
                        self.assertEqual(raised_upto(a, e, most), a ** e)
                    else:
                        self.assertGreater(raised_upto(a, e, most), most)
