import math
import unittest

from numberpapers.errors import NotDiscriminant, TooMany
from numberpapers.forms import discriminant, turned, value_of
from numberpapers.reduced import (
    alike_paper, class_number, is_alike, is_alike_paper, is_reduced, least_values, reduced, reduced_forms, stabilizer,
)
from tests.helpers import ANY, changed, refused, some
from tests.primes import is_triple
from tests.test_forms import breach, is_turn, some_form, some_turn


def right_reduced(f):
    a, b, c = f
    return abs(b) <= a <= c and (b >= 0 or (abs(b) != a and a != c))


def right_paper(f, g, value):
    """Whether a value is an alike paper, by the words of [79]."""
    if type(value) is not tuple or not value or type(value[0]) is not str:
        return False
    if value[0] == "turn":
        return is_triple(value, 2) and is_turn(value[1]) and turned(f, value[1]) == g
    if value[0] != "apart" or not is_triple(value, 3) or not is_turn(value[1]) or not is_turn(value[2]):
        return False
    one, other = turned(f, value[1]), turned(g, value[2])
    return right_reduced(one) and right_reduced(other) and one != other


def all_forms(D):
    """The reduced forms by trying all a, b and c that may be."""
    found = []
    for a in range(1, math.isqrt(-D) + 1):
        for b in range(-a, a + 1):
            if (b * b - D) % (4 * a) == 0 and right_reduced((a, b, (b * b - D) // (4 * a))):
                found.append((a, b, (b * b - D) // (4 * a)))
    return tuple(sorted(found))


def times(one, other):
    (p, q), (r, s) = one
    (t, u), (v, w) = other
    return ((p * t + q * v, p * u + q * w), (r * t + s * v, r * u + s * w))


SMALL = [(a, b, c) for a in range(1, 8) for b in range(-9, 10) for c in range(1, 9) if b * b < 4 * a * c]
SOME_D = (-3, -4, -7, -8, -12, -16, -23, -27, -48, -71, -84, -100, -163, -231, -1000, -3999)


def some_alike(seed, count):
    """Pairs of forms that are alike, the entries of one of them great."""
    source = some(seed)
    for _ in range(count):
        f = source.choice(all_forms(source.choice(SOME_D)))
        while True:
            g = turned(f, some_turn(source, source.randrange(12), source.choice((2, 5, 1000))))
            if breach(g) is None:
                break
        yield f, g


ALIKE = list(some_alike(419, 500))


class Reduced(unittest.TestCase):  # [79]
    def test_which_are_reduced(self):
        for f in SMALL:
            self.assertIs(is_reduced(f), right_reduced(f), f)
        for f, right in (
            ((1, 1, 1), True), ((1, -1, 1), False), ((1, 0, 1), True), ((2, 2, 3), True), ((2, -2, 3), False), ((2, 1, 2), True), ((2, -1, 2), False),
            ((2, -1, 3), True), ((2, 3, 3), False), ((3, 0, 2), False), ((3, 1, 2), False),
        ):
            self.assertIs(is_reduced(f), right)

    def check(self, f):
        form, turn = reduced(f)
        self.assertTrue(right_reduced(form), f)
        self.assertTrue(is_turn(turn))
        self.assertEqual(turned(f, turn), form)
        self.assertTrue(all(abs(entry) < 10 ** 160 for row in turn for entry in row))
        return form

    def test_small_forms(self):
        for f in SMALL:
            self.assertIn(self.check(f), all_forms(discriminant(f)))

    def test_alike_forms_have_one_reduced_form(self):
        for f, g in ALIKE:
            self.assertEqual(self.check(g), f)
            self.assertIs(is_alike(f, g), True)
            self.assertIs(is_alike(g, f), True)

    def test_great_forms(self):
        source = some(421)
        for _ in range(150):
            f = some_form(source)
            form = self.check(f)
            g = turned(form, some_turn(source, 3, 10 ** 3))
            if breach(g) is None:
                self.assertEqual(self.check(g), form)
        for f in (
            (10 ** 40, 10 ** 40 - 1, 25 * 10 ** 38), (1, 0, 25 * 10 ** 38), (25 * 10 ** 38, 0, 1), (10 ** 40, -10 ** 40, 25 * 10 ** 38 + 1), (10 ** 20, 10 ** 20, 10 ** 19),
            (5 * 10 ** 19, -1, 5 * 10 ** 19), (10 ** 40, 2 * 10 ** 20 - 1, 1), (1, 10 ** 20, 25 * 10 ** 38 + 1),
        ):
            if breach(f) is None:
                self.check(f)

    def test_the_edges(self):
        for f, form in (
            ((1, -1, 1), (1, 1, 1)), ((2, -2, 3), (2, 2, 3)), ((2, -1, 2), (2, 1, 2)), ((3, 2, 2), (2, 2, 3)), ((3, -2, 2), (2, 2, 3)), ((1, 2, 2), (1, 0, 1)),
            ((5, 4, 1), (1, 0, 1)), ((7, 5, 1), (1, 1, 1)), ((3, -1, 2), (2, 1, 3)), ((3, 1, 2), (2, -1, 3)),
        ):
            self.assertEqual(self.check(f), form)

    def test_alike(self):
        for f in SMALL[::3]:
            for g in SMALL[::5]:
                same = reduced(f)[0] == reduced(g)[0]
                self.assertIs(is_alike(f, g), same)
                paper = alike_paper(f, g)
                self.assertEqual(paper[0], "turn" if same else "apart")
                self.assertTrue(right_paper(f, g, paper))
                self.assertIs(is_alike_paper(f, g, paper), True)
        # One discriminant, but not alike.
        self.assertIs(is_alike((2, 1, 3), (2, -1, 3)), False)
        self.assertIs(is_alike((1, 0, 5), (2, 2, 3)), False)
        self.assertIs(is_alike((1, 0, 1), (2, 0, 2)), False)

    def test_papers_of_great_forms(self):
        for f, g in ALIKE[:200]:
            self.assertTrue(right_paper(f, g, alike_paper(f, g)))
            self.assertEqual(alike_paper(g, f)[0], "turn")
        source = some(431)
        for _ in range(30):
            f, g = some_form(source), some_form(source)
            paper = alike_paper(f, g)
            self.assertEqual(paper[0], "apart")
            self.assertTrue(right_paper(f, g, paper))

    def test_never_both(self):
        turns = [((p, q), (r, s)) for p in (-1, 0, 1) for q in (-1, 0, 1) for r in (-1, 0, 1) for s in (-1, 0, 1) if p * s - q * r == 1]
        for f in ((1, 0, 1), (1, 1, 1), (2, 1, 3), (2, -1, 3), (1, 0, 5), (2, 2, 3)):
            for g in ((1, 0, 1), (1, 2, 2), (1, 1, 1), (2, 1, 3), (3, 1, 2), (3, -1, 2), (2, 2, 3), (2, -2, 3)):
                one = any(is_alike_paper(f, g, ("turn", turn)) for turn in turns)
                other = any(is_alike_paper(f, g, ("apart", a, b)) for a in turns for b in turns)
                self.assertFalse(one and other)
                self.assertTrue(one or other)

    def test_any_value(self):
        for f, g in (((1, 0, 1), (1, 2, 2)), ((2, 1, 3), (2, -1, 3)), ((1, 1, 1), (1, -1, 1)), ALIKE[0], ALIKE[7], ((1, 0, 1), (1, 0, 2))):
            values = list(ANY) + list(changed(alike_paper(f, g)))
            for inner in ANY:
                values += [("turn", inner), ("apart", inner, ((1, 0), (0, 1))), ("apart", ((1, 0), (0, 1)), inner), ("turn", ((1, inner), (0, 1)))]
            for value in values:
                self.assertIs(is_alike_paper(f, g, value), right_paper(f, g, value), (f, g, value))
        same = ((1, 0), (0, 1))
        self.assertIs(is_alike_paper((1, 0, 1), (1, 0, 1), ("apart", same, same)), False)
        self.assertIs(is_alike_paper((5, 4, 1), (1, 0, 2), ("apart", same, same)), False)


class Stabilizers(unittest.TestCase):  # [79]
    def check(self, f):
        turns = stabilizer(f)
        self.assertEqual(list(turns), sorted(set(turns)))
        self.assertTrue(all(is_turn(turn) and turned(f, turn) == f for turn in turns))
        a, b, c = reduced(f)[0]
        self.assertEqual(len(turns), 6 if a == b == c else 4 if a == c and b == 0 else 2)
        return turns

    def test_small_forms(self):
        span = range(-4, 5)
        turns = [((p, q), (r, s)) for p in span for q in span for r in span for s in span if p * s - q * r == 1]
        for f in SMALL[::4] + [(1, 0, 1), (1, 1, 1), (2, 2, 2), (3, 0, 3), (1, 2, 2), (1, 3, 3), (3, 3, 1), (3, -3, 1)]:
            found = self.check(f)
            self.assertEqual([turn for turn in turns if turned(f, turn) == f], [turn for turn in found if turn in turns])
        self.assertEqual(stabilizer((1, 0, 2)), (((-1, 0), (0, -1)), ((1, 0), (0, 1))))
        self.assertEqual(stabilizer((1, 0, 1)), (((-1, 0), (0, -1)), ((0, -1), (1, 0)), ((0, 1), (-1, 0)), ((1, 0), (0, 1))))

    def test_forms_alike_to_the_sixth_and_the_fourth(self):
        source = some(433)
        for size in (1, 2, 7, 10 ** 19):
            for form, count in (((size, size, size), 6), ((size, 0, size), 4)):
                for _ in range(20):
                    f = turned(form, some_turn(source, source.randrange(5), 30))
                    if breach(f) is None:
                        turns = self.check(f)
                        self.assertEqual(len(turns), count)
                        self.assertEqual(sorted(times(one, other) for one in turns for other in turns[:1]), list(turns))

    def test_great_forms(self):
        for _, f in ALIKE[:150]:
            self.check(f)


class ReducedForms(unittest.TestCase):  # [80]
    def test_small_discriminants(self):
        for D in range(-700, 12):
            if D >= 0 or D % 4 > 1:
                refused(self, NotDiscriminant, {}, reduced_forms, D)
                refused(self, NotDiscriminant, {}, class_number, D)
                continue
            forms = reduced_forms(D)
            self.assertEqual(forms, all_forms(D))
            self.assertTrue(all(3 * a * a <= -D for a, _, _ in forms))
            self.assertEqual(class_number(D), sum(math.gcd(*f) == 1 for f in forms))

    def test_edges(self):
        self.assertEqual(reduced_forms(-3), ((1, 1, 1),))
        self.assertEqual(reduced_forms(-4), ((1, 0, 1),))
        self.assertEqual(reduced_forms(-12), ((1, 0, 3), (2, 2, 2)))
        self.assertEqual([class_number(D) for D in (-3, -4, -12, -23, -47, -163, -3299)], [1, 1, 1, 3, 5, 1, 27])
        for D in (-40000, -39999, -39996, -39995):
            self.assertEqual(reduced_forms(D), all_forms(D))
        for D in (-40003, -40004, -40007, -10 ** 40, -10 ** 400, -4 * 10 ** 41 - 3):
            self.assertIn(D % 4, (0, 1))
            refused(self, TooMany, {"limit": 40000}, reduced_forms, D)
            refused(self, TooMany, {"limit": 40000}, class_number, D)
        for D in (-40001, -40002, -1, -2, -5, -6, 0, 1, 4, 5, 8, 10 ** 400, -10 ** 40 - 1, -10 ** 400 - 2):
            refused(self, NotDiscriminant, {}, reduced_forms, D)
            refused(self, NotDiscriminant, {}, class_number, D)


class LeastValues(unittest.TestCase):  # [81]
    def test_small_forms(self):
        for f in SMALL:
            self.assertEqual(least_values(f), self.by_trying(f), f)

    def by_trying(self, f):
        """The three least values by the words, at all pairs near 0."""
        pairs = sorted((value_of(f, x, y), x, y) for x in range(-14, 15) for y in range(-14, 15) if (x, y) != (0, 0))
        a, p, q = pairs[0]
        c, r, s = next((n, x, y) for n, x, y in pairs if x * q != y * p)
        third = next(n for n, x, y in pairs if x * q != y * p and x * s != y * r)
        return (a, c, third)

    def test_great_forms(self):
        source = some(439)
        for f, g in ALIKE:
            self.assertEqual(least_values(g), (f[0], f[2], f[0] + f[2] - abs(f[1])))
        for _ in range(50):
            f = some_form(source)
            a, c, third = least_values(f)
            self.assertTrue(0 < a <= c <= third)
            self.assertTrue(3 * a * c <= -discriminant(f) <= 4 * a * c)
            for _ in range(20):
                x, y = source.randrange(-9, 10), source.randrange(-9, 10)
                self.assertTrue((x, y) == (0, 0) or value_of(f, x, y) >= a)
