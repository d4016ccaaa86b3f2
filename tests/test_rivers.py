import math
import unittest

from numberpapers.errors import NotDiscriminant, NotRiver, NotSame, TooMany
from numberpapers.forms import turned
from numberpapers.rivers import (
    alike_above, check_river, is_alike_above, rings, river, river_back, river_breach, river_step, to_river,
)
from tests.helpers import ANY, changed, refused, some
from tests.primes import integer, is_triple
from tests.test_forms import is_turn, some_turn
from tests.test_reduced import times

MOST = {"limit": 5000}
TURNS = {"l": ((1, 0), (1, 1)), "r": ((1, 1), (0, 1))}


def above(f):
    return f[1] ** 2 - 4 * f[0] * f[2]


def square(n):
    return n >= 0 and math.isqrt(n) ** 2 == n


def breach(value):
    if not is_triple(value, 3) or not all(integer(x) and abs(x) < 10 ** 100 for x in value):
        return "form"
    if value[0] <= 0 or value[2] >= 0:
        return "sign"
    if above(value) >= 10 ** 80:
        return "great"
    return "square" if square(above(value)) else None


def step(f):
    a, b, c = f
    s = a + b + c
    return ("l", (s, b + 2 * c, c)) if s > 0 else ("r", (a, b + 2 * a, s))


def walk(f):
    """One round by steps."""
    letters, forms, g = "", [], f
    while not forms or g != f:
        forms.append(g)
        letter, g = step(g)
        letters += letter
    return letters, forms


def river_forms(D):
    """All river forms with a discriminant, by trying all a and b."""
    found = []
    for b in range(-math.isqrt(D), math.isqrt(D) + 1):
        m = D - b * b
        if m % 4 == 0:
            found += [(a, b, -(m // 4 // a)) for a in range(1, m // 4 + 1) if m // 4 % a == 0]
    return sorted(found)


def some_river(source, digits=10):
    """A river form with entries of some digits."""
    while True:
        a, c = source.randrange(1, 10 ** digits), -source.randrange(1, 10 ** digits)
        f = (a, source.randrange(-10 ** digits, 10 ** digits), c)
        if breach(f) is None:
            return f


def right_answer(f, g, value):
    """Whether a value is an answer of alike_above, by the words of [89]."""
    if type(value) is not tuple or not value or type(value[0]) is not str:
        return False
    if value[0] == "turn":
        return len(value) == 2 and is_turn(value[1]) and turned(f, value[1]) == g
    if value[0] != "apart" or len(value) != 4 or not is_turn(value[1]) or not is_turn(value[2]) or type(value[3]) is not str:
        return False
    one, other = turned(f, value[1]), turned(g, value[2])
    if breach(one) is not None or breach(other) is not None:
        return False
    letters, forms = walk(one)
    return letters == value[3] and other not in forms


SMALL = [(a, b, c) for a in range(1, 5) for b in range(-5, 6) for c in range(-4, 0) if not square(b * b - 4 * a * c)]


class Breaches(unittest.TestCase):  # [87]
    def both(self, value):
        wanted = breach(value)
        self.assertEqual(river_breach(value), wanted, value)
        if wanted is None:
            self.assertIs(check_river(value), value)
        else:
            refused(self, NotRiver, {"rule": wanted}, check_river, value)

    def test_by_hand(self):
        great = 10 ** 40
        for value, wanted in (
            ((1, 0, -2), None), ((1, 0, -1), "square"), ((1, 1, -1), None), ((1, 0, 1), "sign"), ((-1, 0, 2), "sign"), ((0, 1, -1), "sign"), ((1, 1, 0), "sign"),
            ((-1, 0, -2), "sign"), ((great, 0, -great), "great"), ((great // 2, 0, -great // 2), "great"), ((great // 2, 0, 1 - great // 2), None),
            ((1, 0, -great ** 2 // 4), "great"), ((1, 0, 1 - great ** 2 // 4), None), ((1, great, -1), "great"), ((1, great - 1, -1), None),
            ((10 ** 100 - 1, 0, -1), "great"), ((10 ** 100, 0, -1), "form"), ((1, -10 ** 100, -1), "form"), ((1, 1 - 10 ** 100, -1), "great"), ((1, 0, -10 ** 100), "form"),
            ([1, 0, -2], "form"), ((1, 0), "form"), ((True, 0, -2), "form"), ((1, False, -2), "form"), ((1, 0, -2.0), "form"), ((1, 0, -2, 0), "form"), ((2, 3, -2), "square"),
            ((10 ** 99, 0, 10 ** 99), "sign"), ((2, 2 * great, -1), "great"), ((great // 2 - 1, 1, 1 - great // 2), None), ((great // 4, 0, -great), "great"),
        ):
            self.assertEqual(breach(value), wanted, value)
            self.both(value)

    def test_any_value(self):
        for value in list(ANY) + list(changed((2, -1, -3))) + list(changed((10 ** 40 // 2, 1, 2 - 10 ** 40 // 2))):
            self.both(value)
        for a in range(-2, 4):
            for b in range(-4, 5):
                for c in range(-4, 3):
                    self.both((a, b, c))


class Steps(unittest.TestCase):  # [87], [88]
    def test_steps(self):
        source = some(521)
        for f in SMALL + [some_river(source, digits) for digits in (1, 5, 20, 39) for _ in range(60)]:
            self.assertEqual(river_step(f), step(f))
            letter, g = river_step(f)
            self.assertIsNone(breach(g))
            self.assertEqual(above(g), above(f))
            self.assertEqual(turned(f, TURNS[letter]), g)
            self.assertEqual(river_back(g), (letter, f))
            letter, g = river_back(f)
            self.assertIsNone(breach(g))
            self.assertEqual(river_step(g), (letter, f))

    def test_rounds(self):
        source = some(523)
        for f in SMALL + [some_river(source, 2) for _ in range(60)]:
            letters, forms = river(f)
            self.assertEqual((letters, list(forms)), walk(f))
            self.assertEqual(step(forms[-1]), (letters[-1], f))
            self.assertEqual(len(set(forms)), len(letters))

    def test_how_long_rounds_may_be(self):
        for f, count in (((1, 0, -1250 ** 2 - 1), 5000), ((1, 0, -1251 ** 2 - 1), 5004), ((1, 0, -1666 ** 2 - 2), 4998), ((1, 0, -1667 ** 2 - 2), 5001)):
            self.assertEqual(len(walk(f)[0]), count)
            if count > 5000:
                refused(self, TooMany, MOST, river, f)
            else:
                self.assertEqual(river(f)[0], walk(f)[0])
        refused(self, TooMany, MOST, river, (1, 0, 1 - 10 ** 80 // 4))
        refused(self, TooMany, MOST, river, (1, 10 ** 40 - 1, -1))
        self.assertEqual(river((1, 1, -1)), ("lr", ((1, 1, -1), (1, -1, -1))))


class ToRiver(unittest.TestCase):  # [88]
    def check(self, f):
        turn, g = to_river(f)
        self.assertTrue(is_turn(turn))
        self.assertEqual(turned(f, turn), g)
        self.assertIsNone(breach(g), f)
        return g

    def test_small_forms(self):
        for a in range(-6, 7):
            for b in range(-9, 10):
                for c in range(-6, 7):
                    if b * b > 4 * a * c and not square(b * b - 4 * a * c):
                        self.check((a, b, c))

    def test_great_forms(self):
        source = some(541)
        for _ in range(200):
            f = some_river(source, source.choice((1, 3, 12, 39)))
            g = turned(f, some_turn(source, source.randrange(1, 9), source.choice((2, 50, 10 ** 6))))
            if max(map(abs, g)) < 10 ** 100:
                self.check(g)
                self.check((-g[0], -g[1], -g[2]))
        for k in (10 ** 49 - 1, 10 ** 49 + 7):
            for f in ((1, 0, -2), (3, 1, -5), (1, 10 ** 40 - 1, -1)):
                for turn in (((1, k), (0, 1)), ((1, 0), (k, 1)), ((1, -k), (0, 1)), ((0, -1), (1, 0)), ((k, k - 1), (1, 1))):
                    g = turned(f, turn)
                    if max(map(abs, g)) < 10 ** 100:
                        self.check(g)
        self.check((1, 2 * 10 ** 49, 10 ** 98 - 2))
        self.check((-1, 2 * 10 ** 49, 2 - 10 ** 98))

    def test_river_forms_stay(self):
        for f in SMALL:
            self.assertEqual(to_river(f)[1] in walk(f)[1], True)


class Alike(unittest.TestCase):  # [88], [89]
    def check(self, f, g):
        value = alike_above(f, g)
        self.assertTrue(right_answer(f, g, value), (f, g, value))
        self.assertIs(is_alike_above(f, g, value), True)
        return value[0]

    def test_small_forms(self):
        for D in (5, 8, 12, 13, 17, 20, 21, 24, 28, 32, 40, 44, 60, 96, 136, 145):
            forms = river_forms(D)
            for f in forms[::2]:
                ring = walk(f)[1]
                for g in forms:
                    self.assertEqual(self.check(f, g), "turn" if g in ring else "apart")

    def test_forms_that_are_alike(self):
        source = some(547)
        for _ in range(150):
            f = some_river(source, source.choice((1, 2, 3)))
            F, G = (turned(f, some_turn(source, source.randrange(1, 7), source.choice((2, 40, 10 ** 5)))) for _ in range(2))
            if len(walk(f)[0]) <= 5000 and max(map(abs, F + G)) < 10 ** 100:
                self.assertEqual(self.check(F, G), "turn")
                self.assertEqual(self.check(f, G), "turn")
                self.assertEqual(self.check(G, f), "turn")

    def test_long_rounds(self):
        f = (1, 0, -1250 ** 2 - 1)
        letters, forms = river(f)
        for at in (1, 2, 1250, 2499, 2500, 4999):
            self.assertEqual(self.check(f, forms[at]), "turn")
        g = (1250 ** 2 + 1, 0, -1)
        self.assertEqual(self.check(f, g), "turn")
        # The longest ratios: letters in turn.
        self.assertEqual(self.check(forms[17], turned(g, ((1, 10 ** 40), (0, 1)))), "turn")
        one, other = (1, 0, -1666 ** 2 - 2), (1666 ** 2 + 2, 0, -1)
        self.assertEqual(self.check(one, other), "apart")

    def test_errors(self):
        refused(self, NotSame, {}, alike_above, (1, 0, -2), (1, 0, -3))
        refused(self, NotSame, {}, alike_above, (1, 0, -1667 ** 2 - 2), (1, 0, -3))
        refused(self, NotSame, {}, is_alike_above, (1, 0, -2), (1, 0, -3), None)
        refused(self, NotSame, {}, is_alike_above, (1, 0, -2), (1, 0, -3), ("turn", ((1, 0), (0, 1))))
        for f in ((1, 0, -1667 ** 2 - 2), (1, 0, -1251 ** 2 - 1), (-1251 ** 2 - 1, 0, 1)):
            refused(self, TooMany, MOST, alike_above, f, f)
            self.assertIs(is_alike_above(f, f, ("turn", ((1, 0), (0, 1)))), True)
        # Long letters are judged all the same.
        f, g = (1, 0, -1667 ** 2 - 2), (1667 ** 2 + 2, 0, -1)
        letters, forms = walk(f)
        same = ((1, 0), (0, 1))
        self.assertNotIn(g, forms)
        self.assertEqual(len(letters), 5001)
        for text, right in ((letters, True), (letters[:-1], False), (letters + letters[0], False), (letters * 2, False), ("r" * 5001, False), ("", False)):
            self.assertIs(is_alike_above(f, g, ("apart", same, same, text)), right)

    def test_any_value(self):
        for f, g in (((1, 0, -2), (2, 0, -1)), ((1, 0, -3), (3, 0, -1)), ((1, 0, -7), (-7, 0, 1)), ((3, 5, 1), (1, 5, 3)), ((1, 0, -10), (2, 0, -5))):
            right = alike_above(f, g)
            values = list(ANY) + list(changed(right))
            same = ((1, 0), (0, 1))
            for inner in ANY + ("lr", "rrlrlrr", "rlr"):
                values += [("turn", inner), ("apart", inner, same, "lr"), ("apart", same, inner, "lr"), ("apart", same, same, inner), right[:-1] + (inner,)]
            for value in values:
                self.assertIs(is_alike_above(f, g, value), right_answer(f, g, value), (f, g, value))
        # Forms that are no river forms are none of an answer.
        self.assertIs(is_alike_above((3, 0, -1), (1, 0, -3), ("apart", ((0, -1), (1, 0)), ((1, 0), (0, 1)), "rrl")), False)

    def test_never_both(self):
        for f, g in (((1, 0, -3), (3, 0, -1)), ((1, 0, -2), (2, 0, -1))):
            turns = [((p, q), (r, s)) for p in range(-3, 4) for q in range(-3, 4) for r in range(-3, 4) for s in range(-3, 4) if p * s - q * r == 1]
            alike = any(is_alike_above(f, g, ("turn", turn)) for turn in turns)
            apart = any(is_alike_above(f, g, ("apart", t, u, walk(turned(f, t))[0])) for t in turns if breach(turned(f, t)) is None for u in turns[::3])
            self.assertTrue(alike != apart)

    def test_turns_of_rounds(self):
        # The turn of a round leads a form to itself.
        for f in SMALL:
            turn = ((1, 0), (0, 1))
            for letter in river(f)[0]:
                turn = times(turn, TURNS[letter])
            self.assertEqual(turned(f, turn), f)


class Rings(unittest.TestCase):  # [89]
    def check(self, D):
        found = rings(D)
        self.assertEqual(sorted(f for ring in found for f in ring), river_forms(D))
        self.assertEqual(list(found), sorted(found))
        for ring in found:
            self.assertEqual(min(ring), ring[0])
            self.assertEqual(list(ring), walk(ring[0])[1])

    def test_small_discriminants(self):
        for D in range(-20, 400):
            if D <= 0 or square(D) or D % 4 > 1:
                refused(self, NotDiscriminant, {}, rings, D)
            else:
                self.check(D)

    def test_edges(self):
        self.assertEqual(rings(5), (((1, -1, -1), (1, 1, -1)),))
        for D in (20000, 19997, 19996, 19993, 19992):
            self.check(D)
        for D in (20001, 20004, 20005, 20008, 10 ** 400 + 1, 10 ** 40 + 4):
            refused(self, TooMany, {"limit": 20000}, rings, D)
        for D in (0, -3, -4, 4, 9, 141 ** 2, 142 ** 2, 20002, 20003, 10 ** 400, -10 ** 400, 10 ** 400 + 2, 10 ** 400 + 3):
            refused(self, NotDiscriminant, {}, rings, D)
