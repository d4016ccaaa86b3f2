import unittest

from numberpapers.transforms import back, is_wheel, shift_wheel, transform, wheel_product, wheels
from tests.helpers import ANY, changed, some

WHEELS = ((3, 1, 2), (17, 4, 3), (15, 1, 14), (65, 2, 8), (10 ** 40 - 1, 1, 10 ** 40 - 2), (5 * 13, 2, 57))


def plain_transform(entries, wheel):
    M, s, w = wheel
    powers = [pow(w, k, M) for k in range(len(entries))]
    size = len(entries)
    return tuple(sum(e * powers[j * k % size] for j, e in enumerate(entries)) % M for k in range(size))


def plain_product(one, other, M):
    size = len(one)
    return tuple(sum(one[i] * other[(k - i) % size] for i in range(size)) % M for k in range(size))


class IsWheel(unittest.TestCase):  # [18]
    def test_right_ones(self):
        for wheel in WHEELS:
            self.assertIs(is_wheel(wheel), True, wheel)

    def test_all_small_triples(self):
        for M in range(0, 40):
            for s in range(0, 6):
                for w in range(-1, M + 1):
                    odd = M >= 3 and M % 2 == 1 and 1 <= s
                    wanted = odd and 0 <= w < M and pow(w, 2 ** (s - 1), M) == M - 1
                    self.assertIs(is_wheel((M, s, w)), wanted, (M, s, w))

    def test_edges(self):
        self.assertIs(is_wheel((10 ** 40 + 1, 1, 10 ** 40)), False)
        self.assertIs(is_wheel((2 ** 13 * 2 + 1, 14, 3)), False)
        self.assertIs(is_wheel((2 ** 16 + 1, 13, pow(3, 8, 2 ** 16 + 1))), True)
        self.assertIs(is_wheel((2 ** 16 + 1, 14, pow(3, 4, 2 ** 16 + 1))), False)
        self.assertIs(is_wheel((17, 4, 3 + 17)), False)
        self.assertIs(is_wheel((17, 4, -14)), False)

    def test_any_value(self):
        for wheel in ((17, 4, 3), (3, 1, 2)):
            for value in list(ANY) + list(changed(wheel)):
                right = type(value) is tuple and len(value) == 3 and all(type(v) is int for v in value)
                if right:
                    M, s, w = value
                    right = M % 2 == 1 and 3 <= M <= 10 ** 40 and 1 <= s <= 13 and 0 <= w < M
                    right = right and pow(w, 2 ** (s - 1), M) == M - 1
                self.assertIs(is_wheel(value), bool(right), value)


class Wheels(unittest.TestCase):  # [18]
    def test_the_three_primes(self):
        found = []
        M = 10 ** 9 - 1
        while len(found) < 3:
            if M % 2 ** 13 == 1 and all(M % d for d in range(2, 31623)):
                found.append(M)
            M -= 1
        for s in range(1, 14):
            made = wheels(s)
            self.assertEqual([wheel[0] for wheel in made], found)
            for M, size, w in made:
                z = 2
                while pow(z, (M - 1) // 2, M) != M - 1:
                    z += 1
                self.assertEqual((size, w), (s, pow(z, (M - 1) // 2 ** s, M)))
                self.assertTrue(is_wheel((M, size, w)))


class Transforms(unittest.TestCase):  # [18]
    def some_wheels(self):
        found = list(WHEELS)
        for s in (1, 2, 3, 5, 6):
            found += list(wheels(s)) + [shift_wheel(s, 0), shift_wheel(s, 10 ** 40), shift_wheel(s, 1000)]
        # A modulus that is not prime, and a w that is a power of 2 but not the least one.
        found += [(2 ** 12 + 1, 3, 2 ** 9), (2 ** 64 + 1, 4, 2 ** 24), (17 * 97, 4, self.joined(17, 97))]
        return found

    def joined(self, p, q):
        """A number whose 8-th power is -1 modulo p * q."""
        return next(w for w in range(p * q) if pow(w, 8, p * q) == p * q - 1)

    def test_by_its_words(self):
        source = some(47)
        for wheel in self.some_wheels():
            M, s, w = wheel
            for _ in range(4):
                entries = tuple(source.choice((0, 1, M - 1, source.randrange(M))) for _ in range(2 ** s))
                found = transform(entries, wheel)
                self.assertEqual(found, plain_transform(entries, wheel), wheel)
                self.assertEqual(back(found, wheel), entries, wheel)
                self.assertEqual(transform(back(entries, wheel), wheel), entries)

    def test_products(self):
        source = some(53)
        for wheel in self.some_wheels():
            M, s, w = wheel
            for _ in range(3):
                one = tuple(source.randrange(M) for _ in range(2 ** s))
                other = tuple(source.choice((0, M - 1, source.randrange(M))) for _ in range(2 ** s))
                found = wheel_product(one, other, wheel)
                self.assertEqual(found, plain_product(one, other, M), wheel)
                both = zip(transform(one, wheel), transform(other, wheel))
                self.assertEqual(transform(found, wheel), tuple(a * b % M for a, b in both))

    def test_2_to_the_13_entries(self):
        source = some(59)
        for wheel in (wheels(13)[0], shift_wheel(13, 10 ** 40), (2 ** 16 + 1, 13, pow(3, 8, 2 ** 16 + 1))):
            M, s, w = wheel
            entries = tuple(source.randrange(M) for _ in range(2 ** s))
            found = transform(entries, wheel)
            for k in (0, 1, 2, 4095, 4096, 8191):
                x, total = pow(w, k, M), 0
                for entry in entries[::-1]:
                    total = (total * x + entry) % M
                self.assertEqual(found[k], total)
            self.assertEqual(back(found, wheel), entries)
        one = (5,) + (0,) * 8190 + (7,)
        self.assertEqual(wheel_product(one, one, wheel), (25,) + (0,) * 8189 + (49, 70))

    def test_great_moduli(self):
        M = 10 ** 40 - 1
        wheel = (M, 1, M - 1)
        self.assertEqual(transform((M - 1, M - 2), wheel), ((2 * M - 3) % M, 1))
        self.assertEqual(back(((2 * M - 3) % M, 1), wheel), (M - 1, M - 2))


class ShiftWheels(unittest.TestCase):  # [19]
    def test_by_its_words(self):
        for s in range(1, 14):
            for most in (0, 1, 2, 3, 4, 7, 8, 2 ** 16 - 1, 2 ** 16, 10 ** 12, 2 ** 128 - 1, 2 ** 128, 10 ** 40):
                M, size, w = shift_wheel(s, most)
                K = 2 ** (s - 1)
                while 2 ** K <= most:
                    K += 2 ** (s - 1)
                self.assertEqual((M, size, w), (2 ** K + 1, s, 2 ** (2 * K // 2 ** s)))
                self.assertEqual(pow(w, 2 ** (s - 1), M), M - 1)
                self.assertIs(is_wheel((M, size, w)), M <= 10 ** 40)
