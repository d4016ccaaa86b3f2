import unittest

from numberpapers.errors import ByNought
from numberpapers.quaternions import (
    quat_breach, quat_common, quat_divided, quat_norm, quat_times, quat_turned, whole_turn,
)
from tests.helpers import ANY, changed, refused, some
from tests.judges import quaternion

NOUGHT = (0, 0, 0, 0)
ONE, I, J, K = (2, 0, 0, 0), (0, 2, 0, 0), (0, 0, 2, 0), (0, 0, 0, 2)
MOST = 10 ** 80
# What the products of 1, i, j and k are: a sign and a place.
TABLE = (
    ((1, 0), (1, 1), (1, 2), (1, 3)), ((1, 1), (-1, 0), (1, 3), (-1, 2)), ((1, 2), (-1, 3), (-1, 0), (1, 1)), ((1, 3), (1, 2), (-1, 1), (-1, 0)),
)


def product(u, v):
    """The product by the table, each entry standing for its half."""
    total = [0, 0, 0, 0]
    for i, a in enumerate(u):
        for j, b in enumerate(v):
            sign, place = TABLE[i][j]
            total[place] += sign * a * b
    assert all(entry % 2 == 0 for entry in total)
    return tuple(entry // 2 for entry in total)


def plus(u, v):
    return tuple(a + b for a, b in zip(u, v))


def drawn(source, most):
    odd = source.randrange(2)
    return tuple(2 * source.randrange(-(most // 2), most // 2 + 1 - odd) + odd for _ in range(4))


def some_quaternions(seed, count):
    source = some(seed)
    for _ in range(count):
        yield drawn(source, source.choice((2, 3, 5, 10, 100, 10 ** 20, MOST)))


PAIRS = list(zip(some_quaternions(359, 1500), some_quaternions(367, 1500)))
SMALL = [(a, b, c, d) for a in range(-2, 3) for b in range(-1, 3) for c in range(-2, 2) for d in range(-1, 2) if quaternion((a, b, c, d)) is None]


class Quaternions(unittest.TestCase):  # [75]
    def test_breaches(self):
        for value, wanted in (
            (NOUGHT, None), ((1, 1, 1, 1), None), ((1, -1, 3, MOST + 1), None), ((1, 1, 1, 2), "mixed"), ((0, 0, 0, 1), "mixed"), ((1, 1, 1), "form"),
            ((2, 0, 0, 0, 0), "form"), ((True, 1, 1, 1), "form"), ((0, 0, 0, False), "form"), ([0, 0, 0, 0], "form"), ((0, 0, 0, 0.0), "form"), ((1, 2, 3, None), "form"),
        ):
            self.assertEqual(quat_breach(value), wanted)
        for value in list(ANY) + list(changed((1, -3, 5, 7))) + list(changed(ONE)):
            self.assertEqual(quat_breach(value), quaternion(value), value)

    def test_products(self):
        self.assertEqual([quat_times(*pair) for pair in ((I, I), (J, J), (K, K))], [(-2, 0, 0, 0)] * 3)
        self.assertEqual([quat_times(*pair) for pair in ((I, J), (J, K), (K, I))], [K, I, J])
        self.assertEqual([quat_times(*pair) for pair in ((J, I), (K, J), (I, K))], [quat_times(x, (-2, 0, 0, 0)) for x in (K, I, J)])
        for u, v in PAIRS:
            self.assertEqual(quat_times(u, v), product(u, v))
            self.assertEqual(quat_norm(quat_times(u, v)), quat_norm(u) * quat_norm(v))
            self.assertIsNone(quaternion(quat_times(u, v)))
            self.assertEqual(quat_turned(u), (u[0], -u[1], -u[2], -u[3]))
            self.assertEqual(quat_norm(u) * 4, sum(entry ** 2 for entry in u))
            self.assertEqual(quat_times(u, quat_turned(u)), (2 * quat_norm(u), 0, 0, 0))

    def check_division(self, u, v):
        q, r = quat_divided(u, v)
        self.assertEqual((quaternion(q), quaternion(r)), (None, None))
        self.assertEqual(plus(product(q, v), r), u)
        self.assertLessEqual(2 * quat_norm(r), quat_norm(v))

    def test_divisions(self):
        for u, v in PAIRS + [(u, v) for u in SMALL for v in SMALL[::5]]:
            if v == NOUGHT:
                refused(self, ByNought, {}, quat_divided, u, v)
            else:
                self.check_division(u, v)
        refused(self, ByNought, {}, quat_divided, NOUGHT, NOUGHT)
        refused(self, ByNought, {}, quat_divided, (MOST,) * 4, NOUGHT)

    def test_quotients_that_lie_between(self):
        # The true quotients are all halves and fourths, also those farthest from all quaternions.
        for n in (2, 4, 6, 8, 16, 20, MOST):
            v = (n, 0, 0, 0)
            for u in SMALL:
                for factor in (1, n // 4, n // 2, 3 * n // 4):
                    w = tuple(factor * entry for entry in u)
                    if quaternion(w) is None:
                        self.check_division(w, v)
        self.check_division((2, 2, 0, 0), (4, 0, 0, 0))
        self.check_division((MOST, MOST, 0, 0), (2 * MOST, 0, 0, 0))
        self.check_division((MOST + 1,) * 4, (MOST - 1,) * 4)

    def test_common_parts(self):
        for u, v in PAIRS[:700] + [(u, v) for u in SMALL[::3] for v in SMALL[::3]] + [(NOUGHT, ONE), (ONE, NOUGHT)]:
            if u == v == NOUGHT:
                refused(self, ByNought, {}, quat_common, u, v)
                continue
            g, s, t, p, q = quat_common(u, v)
            self.assertTrue(all(quaternion(x) is None for x in (g, s, t, p, q)))
            self.assertEqual(plus(product(s, u), product(t, v)), g)
            self.assertEqual((product(p, g), product(q, g)), (u, v))
            self.assertNotEqual(g, NOUGHT)

    def test_common_parts_that_are_told(self):
        source = some(373)
        for _ in range(100):
            g, a, b = (drawn(source, 10 ** 20) for _ in range(3))
            if g != NOUGHT and (a, b) != (NOUGHT, NOUGHT):
                found = quat_common(product(a, g), product(b, g))[0]
                self.assertEqual(quat_norm(found) % quat_norm(g), 0)

    def test_whole_turns(self):
        for u in SMALL + [u for pair in PAIRS for u in pair] + [(MOST - 1, 1 - MOST, 3, -3)]:
            e = whole_turn(u)
            self.assertEqual((quaternion(e), quat_norm(e)), (None, 1))
            self.assertTrue(all(entry % 2 == 0 for entry in product(u, e)))
