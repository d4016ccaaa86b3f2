import unittest

from numberpapers.errors import NotForm, NotTurn
from numberpapers.forms import check_form, discriminant, form_breach, turned, value_of
from tests.helpers import ANY, changed, refused, some
from tests.primes import integer, is_triple

MOST = 10 ** 40


def breach(value):
    if not is_triple(value, 3) or not all(integer(x) and abs(x) <= MOST for x in value):
        return "form"
    a, b, c = value
    if a <= 0 or b * b - 4 * a * c >= 0:
        return "sign"
    return "great" if b * b - 4 * a * c < -MOST else None


def is_turn(value):
    if not is_triple(value, 2) or not all(is_triple(row, 2) and all(map(integer, row)) for row in value):
        return False
    (p, q), (r, s) = value
    return p * s - q * r == 1 and max(map(abs, (p, q, r, s))) < 10 ** 2000


def some_turn(source, steps, most):
    """A product of turns."""
    (p, q), (r, s) = (1, 0), (0, 1)
    for _ in range(steps):
        k = source.randrange(-most, most + 1)
        p, q, r, s = p * k + q, -p, r * k + s, -r
    return ((p, q), (r, s))


def some_form(source):
    """A form with great entries."""
    while True:
        a = source.randrange(1, 10 ** source.randrange(1, 41))
        b = source.randrange(-10 ** 20, 10 ** 20) * source.choice((1, 10 ** 10, 10 ** 20))
        c = b * b // (4 * a) + source.randrange(1, 2 + 10 ** 40 // (4 * a))
        if breach((a, b, c)) is None:
            return (a, b, c)


class Forms(unittest.TestCase):  # [78]
    def both(self, value):
        wanted = breach(value)
        self.assertEqual(form_breach(value), wanted, value)
        if wanted is None:
            self.assertIs(check_form(value), value)
        else:
            refused(self, NotForm, {"rule": wanted}, check_form, value)
        return wanted

    def test_by_hand(self):
        for value, wanted in (
            ((1, 0, 1), None), ((1, 1, 1), None), ((0, 0, 1), "sign"), ((-1, 0, -1), "sign"), ((1, 2, 1), "sign"), ((1, 3, 1), "sign"), ((1, 0, 0), "sign"),
            ((1, 0, -1), "sign"), ((MOST, 0, 1), "great"), ((MOST // 4, 0, 1), None), ((MOST // 4, 1, 1), None), ((MOST // 4 + 1, 0, 1), "great"),
            ((MOST // 4 + 1, 1, 1), "great"), ((MOST // 4 + 1, 2, 1), None), ((1, 0, MOST // 4), None), ((1, 0, MOST + 1), "form"), ((MOST, MOST, MOST), "great"),
            ((MOST, 2 * 10 ** 20, 1), "sign"), ((1, MOST, MOST), "sign"), ((1, -MOST - 1, 1), "form"), ((1, 0), "form"), ((1, 0, 1, 0), "form"), ([1, 0, 1], "form"),
            ((True, 0, 1), "form"), ((1, False, 1), "form"), ((1, 0, True), "form"), ((1.0, 0, 1), "form"), ((0, 0, 0), "sign"), ((MOST, -MOST + 1, 1), "sign"),
        ):
            self.assertEqual(self.both(value), wanted, value)

    def test_any_value(self):
        for value in list(ANY) + list(changed((2, -1, 3))) + list(changed((MOST // 4, 1, 1))):
            self.both(value)
        for a in range(-3, 5):
            for b in range(-7, 8):
                for c in range(-3, 5):
                    self.both((a, b, c))

    def test_values(self):
        source = some(401)
        for f in [(1, 1, 1), (2, -3, 5)] + [some_form(source) for _ in range(60)]:
            a, b, c = f
            self.assertEqual(discriminant(f), b * b - 4 * a * c)
            for x, y in ((0, 0), (1, 0), (0, 1), (-3, 7), (10 ** 1999 + 1, -(10 ** 1999) + 7), (source.randrange(10 ** 90), 1)):
                self.assertEqual(value_of(f, x, y), a * x * x + b * x * y + c * y * y)

    def test_turns(self):
        source = some(409)
        for f in [(1, 0, 1), (3, 2, 5)] + [some_form(source) for _ in range(60)]:
            for turn in (some_turn(source, 5, 9), some_turn(source, 40, 10 ** 9), some_turn(source, 3, 10 ** 600), ((1, 0), (0, 1)), ((0, -1), (1, 0))):
                (p, q), (r, s) = turn
                g = turned(f, turn)
                self.assertEqual(discriminant(g), discriminant(f))
                for x, y in ((1, 0), (0, 1), (1, 1), (-5, 8)):
                    self.assertEqual(value_of(g, x, y), value_of(f, p * x + q * y, r * x + s * y))
                self.assertEqual(turned(g, ((s, -q), (-r, p))), f)
        self.assertGreater(max(turned((1, 0, 1), ((10 ** 300, 10 ** 300 - 1), (1, 1)))), 10 ** 599)

    def test_what_is_no_turn(self):
        f = (2, 1, 3)
        for turn in (
            ((1, 0), (0, -1)), ((0, 1), (1, 0)), ((1, 1), (1, 1)), ((2, 0), (0, 1)), ((1, 0), (0, True)), ((True, 0), (0, 1)), ([1, 0], (0, 1)), ((1, 0), (0, 1), ()),
            ((1, 0),), ((1, 0, 0), (0, 1)), (1, 0, 0, 1), None, (), ((1.0, 0), (0, 1)), ((0, 0), (0, 0)),
        ):
            refused(self, NotTurn, {}, turned, f, turn)
        for value in list(ANY) + list(changed(((2, 1), (1, 1)))) + list(changed(((1, 0), (0, 1)))):
            if is_turn(value):
                self.assertEqual(discriminant(turned(f, value)), discriminant(f))
            else:
                refused(self, NotTurn, {}, turned, f, value)

    def test_turns_of_2000_digits(self):
        most = 10 ** 2000 - 1
        self.assertEqual(turned((1, 0, 1), ((1, most), (0, 1)))[0], 1)
        self.assertEqual(turned((1, 0, 1), ((1, 0), (-most, 1)))[2], 1)
        refused(self, NotTurn, {}, turned, (1, 0, 1), ((1, most + 1), (0, 1)))
        refused(self, NotTurn, {}, turned, (1, 0, 1), ((1, 0), (-most - 1, 1)))
