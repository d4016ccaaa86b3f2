import itertools
import math
import unittest

from numberpapers.classes import (
    back_of, class_order, classes, composed, lattice_form, lattice_of, lattice_times, one_of, power_of,
)
from numberpapers.errors import NotDiscriminant, NotPrimitive, NotSame, TooMany
from numberpapers.forms import discriminant, turned
from numberpapers.reduced import reduced
from numberpapers.told import told_small
from tests.helpers import refused, some
from tests.test_forms import breach, some_form, some_turn
from tests.test_reduced import SMALL, all_forms

MOST = {"limit": 10000}


def primitive(D):
    return [f for f in all_forms(D) if math.gcd(*f) == 1]


def is_lattice(D, value):
    e, A, k = value
    d = D % 4
    return e >= 1 and A >= 1 and 0 <= k < A and (k * k + k * d - (D - d) // 4) % A == 0


def times(D, u, v):
    """The product of x + y T."""
    d = D % 4
    (x, y), (z, w) = u, v
    return (x * z + y * w * ((D - d) // 4), x * w + y * z + d * y * w)


def base_of(lattice):
    e, A, k = lattice
    return [(e * A, 0), (e * k, e)]


def is_within(lattice, pair):
    e, A, k = lattice
    x, y = pair
    return y % e == 0 and x % e == 0 and (x // e - y // e * k) % A == 0


def lattices(D, most):
    """All lattices of D with small numbers."""
    return [(e, A, k) for e in (1, 2, 3) for A in range(1, most) for k in range(A) if is_lattice(D, (e, A, k))]


class Lattices(unittest.TestCase):  # [84]
    def test_of_forms(self):
        source = some(467)
        for f in SMALL + [some_form(source) for _ in range(200)] + [(10 ** 40 // 4, 1, 1), (1, 0, 25 * 10 ** 38), (1, 1, 25 * 10 ** 38)]:
            D = discriminant(f)
            lattice = lattice_of(f)
            d = D % 4
            self.assertIn(d, (0, 1))
            self.assertTrue(is_lattice(D, lattice))
            self.assertEqual(lattice, (1, f[0], (f[1] - d) // 2 % f[0]))
            g = lattice_form(D, lattice)
            self.assertEqual((g[0], g[1], discriminant(g)), (f[0], 2 * lattice[2] + d, D))
            self.assertEqual(reduced(g)[0], reduced(f)[0])

    def test_edges(self):
        self.assertEqual(lattice_of((1, 0, 1)), (1, 1, 0))
        self.assertEqual(lattice_of((1, 1, 1)), (1, 1, 0))
        self.assertEqual(lattice_of((3, 2, 2)), (1, 3, 1))
        self.assertEqual(lattice_of((3, -1, 2)), (1, 3, 2))
        self.assertEqual(lattice_form(-4, (1, 1, 0)), (1, 0, 1))
        self.assertEqual(lattice_form(-3, (5, 1, 0)), (1, 1, 1))
        self.assertEqual(lattice_form(-20, (2, 2, 1)), (2, 2, 3))
        self.assertEqual(lattice_form(-10 ** 40, (1, 1, 0)), (1, 0, 25 * 10 ** 38))

    def check(self, D, one, other):
        found = lattice_times(D, one, other)
        self.assertTrue(is_lattice(D, found), (D, one, other, found))
        products = [times(D, u, v) for u in base_of(one) for v in base_of(other)]
        self.assertTrue(all(is_within(found, pair) for pair in products))
        # The same index, so that there is nothing more in it.
        index = math.gcd(*[x * w - y * z for (x, y), (z, w) in itertools.combinations(products, 2)])
        self.assertEqual(found[0] ** 2 * found[1], index)
        return found

    def test_products(self):
        for D in (-3, -4, -7, -8, -11, -12, -15, -16, -20, -23, -27, -28, -36, -48, -84):
            some_lattices = lattices(D, 14)
            for one in some_lattices[::3]:
                for other in some_lattices[::4]:
                    found = self.check(D, one, other)
                    self.assertEqual(lattice_times(D, other, one), found)
            self.assertEqual(lattice_times(D, (1, 1, 0), some_lattices[-1]), some_lattices[-1])

    def test_great_products(self):
        source = some(479)
        for _ in range(150):
            f = some_form(source)
            D = discriminant(f)
            g = reduced(f)[0]
            h = turned(g, some_turn(source, 2, 10))
            found = self.check(D, (source.randrange(1, 9),) + lattice_of(f)[1:], lattice_of(h) if h[0] < 10 ** 40 else lattice_of(g))
            self.check(D, found, lattice_of(g))
        D = -10 ** 40
        for one in ((1, 1, 0), (7, 2, 0), (1, 10 ** 20, 0), (3, 25 * 10 ** 38, 0)):
            self.check(D, one, one)
        D = 1 - 10 ** 40
        self.check(D - 4 * 3, (1, 1, 0), (9, 1, 0))

    def test_grouped_in_any_way(self):
        source = some(487)
        for D in (-23, -48, -84, -231, -3 * 49):
            some_lattices = lattices(D, 30)
            for _ in range(60):
                a, b, c = (source.choice(some_lattices) for _ in range(3))
                self.assertEqual(lattice_times(D, lattice_times(D, a, b), c), lattice_times(D, a, lattice_times(D, b, c)))


class Composed(unittest.TestCase):  # [85]
    def test_the_group(self):
        for D in list(range(-120, -2)) + [-167, -231, -260, -420, -1155, -3299]:
            if D % 4 > 1:
                continue
            forms = primitive(D)
            one = one_of(D)
            self.assertEqual(one, reduced((1, D % 4, (D % 4 - D) // 4))[0])
            self.assertIn(one, forms)
            for f in forms:
                self.assertEqual(composed(f, one), f)
                self.assertEqual(composed(one, f), f)
                self.assertEqual(composed(f, back_of(f)), one)
                self.assertEqual(back_of(f), reduced((f[0], -f[1], f[2]))[0])
            for f in forms[:8]:
                self.assertEqual(sorted(composed(f, g) for g in forms), forms)
                for g in forms[:8]:
                    self.assertEqual(composed(f, g), composed(g, f))
                    for h in forms[:5]:
                        self.assertEqual(composed(composed(f, g), h), composed(f, composed(g, h)))

    def test_by_hand(self):
        self.assertEqual(composed((2, 1, 3), (2, 1, 3)), (2, -1, 3))
        self.assertEqual(composed((2, 1, 3), (2, -1, 3)), (1, 1, 6))
        self.assertEqual(composed((2, 2, 3), (2, 2, 3)), (1, 0, 5))
        self.assertEqual(composed((5, 4, 1), (1, 2, 2)), (1, 0, 1))

    def test_alike_forms(self):
        source = some(491)
        for D in (-23, -84, -231, -1000, -3999):
            forms = primitive(D)
            for _ in range(60):
                f, g = source.choice(forms), source.choice(forms)
                F, G = (turned(h, some_turn(source, source.randrange(4), 100)) for h in (f, g))
                if breach(F) is None and breach(G) is None:
                    self.assertEqual(composed(F, G), composed(f, g))
                    self.assertEqual(back_of(F), back_of(f))
                    self.assertEqual(power_of(F, 5), power_of(f, 5))
                    self.assertEqual(class_order(F), class_order(f))

    def test_great_forms(self):
        source = some(499)
        for _ in range(40):
            f = some_form(source)
            if math.gcd(*f) > 1:
                continue
            D = discriminant(f)
            one = one_of(D)
            back = back_of(f)
            self.assertEqual(composed(f, back), one)
            g = composed(f, f)
            self.assertEqual(discriminant(g), D)
            self.assertEqual(composed(composed(f, g), f), composed(g, g))
            self.assertEqual(power_of(f, 4), composed(g, g))
            j, k = source.randrange(10 ** 39), source.randrange(10 ** 39)
            self.assertEqual(composed(power_of(f, j), power_of(f, k)), power_of(f, j + k))
            self.assertEqual(power_of(power_of(f, 1000), 77), power_of(f, 77000))

    def test_told_products(self):
        for D in (-20, -23, -24, -39, -47, -84):
            forms = primitive(D)
            numbers = {f: [n for n in range(1, 60) if told_small(f, n)] for f in forms}
            for f in forms:
                for g in forms:
                    h = composed(f, g)
                    for n in numbers[f][:12]:
                        for m in numbers[g][:12]:
                            if math.gcd(n, m) == 1:
                                self.assertIsNotNone(told_small(h, n * m), (f, g, n, m))

    def test_errors(self):
        for f, g in (((2, 0, 2), (1, 0, 1)), ((1, 0, 1), (2, 2, 2)), ((3, 3, 3), (2, 0, 2)), ((2, 0, 2), (2, 0, 2))):
            refused(self, NotPrimitive, {}, composed, f, g)
        for f, g in (((1, 0, 1), (1, 1, 1)), ((2, 1, 3), (1, 0, 5)), ((1, 0, 4), (1, 0, 1))):
            refused(self, NotSame, {}, composed, f, g)
        for f in ((2, 0, 2), (3, 3, 3), (10 ** 20, 0, 10 ** 19), (2, 4, 6)):
            refused(self, NotPrimitive, {}, back_of, f)
            refused(self, NotPrimitive, {}, power_of, f, 0)
            refused(self, NotPrimitive, {}, power_of, f, 10 ** 40)
            refused(self, NotPrimitive, {}, class_order, f)

    def test_the_one_of_any_integer(self):
        for D in list(range(-60, 60)) + [10 ** 40, 10 ** 400, 10 ** 40 + 1, -10 ** 40, 1 - 10 ** 40, 2 - 10 ** 40, -10 ** 40 + 4, 3 - 10 ** 40]:
            if D >= 0 or D % 4 > 1:
                refused(self, NotDiscriminant, {}, one_of, D)
            else:
                self.assertEqual(one_of(D), (1, D % 4, (D % 4 - D) // 4))
                self.assertEqual(reduced(one_of(D))[0], one_of(D))


# Forms with orders around the greatest one that is told.
ORDERS = (
    ((2, 1, 50048260), 9999), ((2, 1, 50004423), 10000), ((2, 1, 50005687), 10000), ((2, 1, 50045103), 10001), ((3, 2, 33341076), 10002), ((2, 1, 50006826), 10003),
    ((2, 1, 50007666), 9991), ((2, 1, 50001231), 9990), ((2, 1, 50034603), 10011),
)


class Powers(unittest.TestCase):  # [85]
    def orders(self, D):
        found = {}
        for f in primitive(D):
            k, g = 1, f
            while g != one_of(D):
                g, k = composed(g, f), k + 1
            found[f] = k
        return found

    def test_powers_and_orders(self):
        source = some(503)
        for D in (-3, -4, -7, -15, -20, -23, -47, -71, -84, -231, -420, -1155, -3299, -3999):
            for f, k in self.orders(D).items():
                self.assertEqual(class_order(f), k)
                self.assertEqual(power_of(f, 0), one_of(D))
                self.assertEqual(power_of(f, 1), f)
                self.assertEqual(power_of(f, k), one_of(D))
                e = source.randrange(10 ** 40)
                self.assertEqual(power_of(f, e), power_of(f, e % k))
                self.assertEqual(power_of(f, 10 ** 40), power_of(f, 10 ** 40 % k))
                if k > 1:
                    self.assertEqual(power_of(f, k - 1), back_of(f))

    def test_orders_around_steps(self):
        for D in (-9839, -10391, -14951, -20039, -39959, -39971):
            if D % 4 < 2:
                for f in primitive(D)[:8]:
                    g, k = f, 1
                    while g != one_of(D):
                        g, k = composed(g, f), k + 1
                    self.assertEqual(class_order(f), k)

    def test_too_great_orders(self):
        for f, k in ORDERS:
            if k > 10000:
                refused(self, TooMany, MOST, class_order, f)
            else:
                self.assertEqual(class_order(f), k)
            self.assertEqual(power_of(f, k), one_of(discriminant(f)))
            for p in [p for p in range(2, k + 1) if k % p == 0]:
                if k % p == 0:
                    self.assertNotEqual(power_of(f, k // p), one_of(discriminant(f)))
        source = some(509)
        for _ in range(10):
            f = reduced(some_form(source))[0]
            if math.gcd(*f) == 1 and f[0] > 10 ** 9:
                refused(self, TooMany, MOST, class_order, f)


class Classes(unittest.TestCase):  # [85]
    def check(self, D):
        found = classes(D)
        self.assertTrue(all(d > 1 for d in found))
        self.assertTrue(all(b % a == 0 for a, b in zip(found, found[1:])))
        forms = primitive(D)
        self.assertEqual(math.prod(found), len(forms))
        # As many elements come to the one with each exponent as there are such rows.
        for k in range(1, len(forms) + 1):
            if len(forms) % k == 0:
                rows = math.prod(math.gcd(k, d) for d in found)
                self.assertEqual(rows, sum(power_of(f, k) == one_of(D) for f in forms))
        return found

    def test_small_discriminants(self):
        for D in range(-400, -2):
            if D % 4 < 2:
                self.check(D)

    def test_by_hand(self):
        for D, wanted in (
            (-3, ()), (-4, ()), (-163, ()), (-12, ()), (-15, (2,)), (-23, (3,)), (-84, (2, 2)), (-420, (2, 2, 2)), (-3299, (3, 9)), (-3896, (3, 12)),
            (-5460, (2, 2, 2, 2)), (-11199, (5, 20)), (-12451, (5, 5)), (-39, (4,)), (-2379, (4, 4)),
        ):
            self.assertEqual(self.check(D), wanted)

    def test_edges(self):
        for D in (-40000, -39999, -39996, -39995, -39271):
            self.check(D)
        for D in (-40003, -40004, -10 ** 40, -10 ** 400):
            refused(self, TooMany, {"limit": 40000}, classes, D)
        for D in (-40001, -40002, 0, 1, 4, 5, -1, -2, -5, -6, 10 ** 400, -10 ** 400 - 1):
            refused(self, NotDiscriminant, {}, classes, D)
