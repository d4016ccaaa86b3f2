import unittest

from numberpapers.errors import ByNought, NotPaper, TooHard
from numberpapers.plane import is_plane_parts, plane_common, plane_divided, plane_parts
from tests.helpers import ANY, changed, refused, some
from tests.judges import P, Q, TOO_HARD, WRONG_KNOWN, is_plane, plane_product, told_by, tried
from tests.primes import is_prime, soft
from tests.test_primepapers import GREAT_PAPERS

NOUGHT = (0, 0)
MOST = 10 ** 80


def norm(z):
    return z[0] ** 2 + z[1] ** 2


def plus(z, w):
    return (z[0] + w[0], z[1] + w[1])


def drawn(source):
    most = source.choice((2, 3, 5, 10, 100, 10 ** 20, MOST))
    return (source.randrange(-most, most + 1), source.randrange(-most, most + 1))


SMALL = [(a, b) for a in range(-5, 6) for b in range(-5, 6)]


class Divisions(unittest.TestCase):  # [77]
    def check_division(self, z, w):
        q, r = plane_divided(z, w)
        self.assertEqual(plus(plane_product(q, w), r), z)
        self.assertLessEqual(2 * norm(r), norm(w))
        self.assertTrue(all(type(x) is int for x in q + r) and type(q) is type(r) is tuple)

    def check_common(self, z, w):
        g, s, t, p, q = plane_common(z, w)
        self.assertEqual(plus(plane_product(s, z), plane_product(t, w)), g)
        self.assertEqual((plane_product(p, g), plane_product(q, g)), (z, w))
        self.assertNotEqual(g, NOUGHT)
        return g

    def test_all_small_numbers(self):
        for z in SMALL:
            for w in SMALL:
                if w == NOUGHT:
                    refused(self, ByNought, {}, plane_divided, z, w)
                else:
                    self.check_division(z, w)
                if z == w == NOUGHT:
                    refused(self, ByNought, {}, plane_common, z, w)
                else:
                    self.check_common(z, w)

    def test_great_numbers(self):
        source = some(383)
        for _ in range(1500):
            z, w, g = drawn(source), drawn(source), drawn(source)
            if w != NOUGHT:
                self.check_division(z, w)
                self.check_common(z, w)
                if g != NOUGHT and max(map(abs, z + w + g)) < 10 ** 40:
                    found = self.check_common(plane_product(z, g), plane_product(w, g))
                    self.assertEqual(norm(found) % norm(g), 0)

    def test_quotients_that_lie_between(self):
        for n in (2, 4, 6, 10, MOST):
            for a in (n // 2, -n // 2, 3 * n // 2, n, 0):
                for b in (n // 2, -n // 2, n // 2 + 1, n // 2 - 1, 0):
                    for w in ((n, 0), (0, n), (-n, 0), (0, -n)):
                        if max(abs(a), abs(b)) <= MOST:
                            self.check_division((a, b), w)
                            self.check_common((a, b), w)


class Parts(unittest.TestCase):  # [77]
    def check(self, z, known=None):
        value = plane_parts(z) if known is None else plane_parts(z, known)
        self.assertTrue(is_plane(z, value), (z, value))
        self.assertIs(is_plane_parts(z, value), True)
        return value

    def test_small_numbers(self):
        seen = set()
        for a in range(-30, 31):
            for b in range(-30, 31):
                if (a, b) != NOUGHT:
                    value = self.check((a, b))
                    seen.add(value[0])
                    self.assertTrue(all(len(row) == 3 for row in value[1]))
        self.assertEqual(len(seen), 4)
        self.assertEqual(plane_parts((0, -1)), ((0, -1), ()))
        self.assertEqual(plane_parts((3, 0)), ((1, 0), (((3, 0), 1, ("tried", 3)),)))
        self.assertEqual([row[:2] for row in plane_parts((5, 0))[1]], [((1, 2), 1), ((2, 1), 1)])
        self.assertEqual([row[:2] for row in plane_parts((0, 2))[1]], [((1, 1), 2)])

    def test_products(self):
        source = some(389)
        primes = [(1, 1), (3, 0), (2, 1), (1, 2), (7, 0), (3, 2), (2, 3), (99991, 0), (1, 4), (6, 1)]
        for _ in range(150):
            z, chosen = source.choice(((1, 0), (0, 1), (-1, 0), (0, -1))), {}
            unit = z
            for prime in (source.choice(primes) for _ in range(source.randrange(12))):
                if norm(plane_product(z, prime)) <= 10 ** 40:
                    z = plane_product(z, prime)
                    chosen[prime] = chosen.get(prime, 0) + 1
            value = self.check(z)
            self.assertEqual((value[0], [row[:2] for row in value[1]]), (unit, sorted(chosen.items())))

    def test_great_numbers(self):
        source = some(397)
        told = 0
        for z in [(10 ** 20, 0), (0, -10 ** 20), (7 * 10 ** 19, 7 * 10 ** 19), (2 ** 66, 0), (5 ** 28, 0)] + [
            (source.randrange(-7 * 10 ** k, 7 * 10 ** k), source.randrange(7 * 10 ** k)) for k in (5, 6, 8, 10, 19) for _ in range(12)
        ]:
            if told_by(norm(z), ()):
                told += 1
                self.check(z)
            else:
                refused(self, TooHard, TOO_HARD, plane_parts, z)
        self.assertTrue(15 < told < 60)

    def test_known(self):
        # P leaves 3 divided by 4, and so does Q: the norm of P is P * P.
        p, q = 100049, 100057
        self.assertTrue(is_prime(p) and is_prime(q) and p % 4 == q % 4 == 1)
        x, y = next((x, y) for x in range(1, 320) for y in range(x, 320) if x * x + y * y == p)
        z, w = next((x, y) for x in range(1, 320) for y in range(x, 320) if x * x + y * y == q)
        for number in (plane_product((x, y), (z, w)), plane_product((x, -y), (w, z)), (p * q, 0), (P * Q, 0), (0, P * Q * p)):
            refused(self, TooHard, TOO_HARD, plane_parts, number)
            refused(self, TooHard, TOO_HARD, plane_parts, number, tried(2, 3))
            self.check(number, tried(P, Q, p, q))
            self.check(number, tried(3, P, Q, p))
        self.check((P * Q, 0), tried(Q))
        self.check(plane_product((x, y), (z, w)), tried(q))
        for known, place in WRONG_KNOWN:
            for number in ((1, 0), (3, 4), (P * Q, 0)):
                refused(self, NotPaper, {"place": place}, plane_parts, number, known)
        self.assertTrue(soft(P))

    def test_by_hand(self):
        two, five = ("tried", 2), ("tried", 5)
        for z, value, right in (
            ((1, 0), ((1, 0), ()), True), ((0, 0), ((1, 0), ()), False), ((2, 0), ((0, -1), (((1, 1), 2, two),)), True), ((2, 0), ((1, 0), (((1, 1), 2, two),)), False),
            ((5, 0), ((0, -1), (((1, 2), 1, five), ((2, 1), 1, five))), True), ((5, 0), ((0, -1), (((2, 1), 1, five), ((1, 2), 1, five))), False),
            ((5, 0), ((1, 0), (((2, -1), 1, five), ((2, 1), 1, five))), False), ((5, 0), ((1, 0), (((5, 0), 1, five),)), False), ((5, 0), ((1, 1), ()), False),
            ((3, 0), ((0, -1), (((0, 3), 1, ("tried", 3)),)), False), ((3, 0), ((-1, 0), (((-3, 0), 1, ("tried", 3)),)), False), ((9, 0), ((1, 0), (((3, 0), 2, ("tried", 3)),)), True),
            ((9, 0), ((1, 0), (((3, 0), 1, ("tried", 3)), ((3, 0), 1, ("tried", 3)))), False), ((9, 0), ((1, 0), (((9, 0), 1, ("tried", 9)),)), False),
            ((3, 4), ((-1, 0), (((1, 2), 2, five),)), False), ((-3, 4), ((1, 0), (((1, 2), 2, five),)), True), ((7, 0), ((True, 0), (((7, 0), 1, ("tried", 7)),)), False),
            ((3, -2), ((1, 0), (((3, -2), 1, ("tried", 13)),)), False), ((3, -2), ((0, -1), (((2, 3), 1, ("tried", 13)),)), True),
            ((-3, 2), ((1, 0), (((-3, 2), 1, ("tried", 13)),)), False), ((0, 3), ((1, 0), (((0, 3), 1, ("tried", 3)),)), False),
            ((3, 3), ((1, 0), (((3, 3), 1, ("tried", 18)),)), False), ((15, 0), ((1, 0), (((15, 0), 1, ("tried", 15)),)), False),
        ):
            self.assertIs(is_plane_parts(z, value), right, (z, value))
            self.assertIs(is_plane(z, value), right, (z, value))

    def test_any_value(self):
        for z in ((1, 0), (0, 0), (2, 0), (3, 4), (15, 6), (0, -21), (MOST, -MOST)):
            values = list(ANY)
            if 0 < norm(z) < 10 ** 40:
                values += list(changed(plane_parts(z)))
            for inner in ANY:
                values += [((1, 0), inner), (inner, ()), ((1, 0), (inner,)), ((1, 0), ((inner, 1, ("tried", 2)),)), ((1, 0), (((1, 1), inner, ("tried", 2)),))]
                values += [((1, 0), (((1, inner), 1, ("tried", 2)),)), ((1, 0), (((1, 1), 1, inner),))]
            for value in values:
                self.assertIs(is_plane_parts(z, value), is_plane(z, value), (z, value))

    def test_great_papers(self):
        n, paper = GREAT_PAPERS[1]
        if n % 4 == 3:
            self.assertIs(is_plane_parts((0, n), ((0, 1), (((n, 0), 1, paper),))), True)
        self.assertLess(n, MOST)
        for e in (1, 2, 1000):
            value = ((0, 1), (((n, 0), e, paper),))
            self.assertIs(is_plane_parts((0, n), value), is_plane((0, n), value))
        rows = tuple(((a, 1), 1000, ("tried", a * a + 1)) for a in range(1, 2000))
        self.assertIs(is_plane_parts((MOST, 1), ((1, 0), rows)), False)
