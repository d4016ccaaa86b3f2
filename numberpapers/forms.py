"""Forms below zero, and turns."""

from numberpapers.errors import NotForm, NotTurn
from numberpapers.kinds import are_numbers, is_tuple
from numberpapers.powers import raised

MOST_ENTRY = 10 ** 40
MOST_BELOW = 10 ** 40
MOST_DIGITS = 2000


def form_breach(value):
    """None for a form, otherwise the word of the rule that is broken."""
    if not are_numbers(value, 3) or max([abs(entry) for entry in value]) > MOST_ENTRY:
        return "form"
    if value[0] <= 0 or discriminant(value) >= 0:
        return "sign"
    return None if discriminant(value) >= -MOST_BELOW else "great"


def check_form(value):
    """The value itself, if it is a form."""
    rule = form_breach(value)
    if rule is not None:
        raise NotForm(rule)
    return value


def discriminant(f):
    """The discriminant."""
    a, b, c = f
    return b * b - 4 * a * c


def value_of(f, x, y):
    """The value of a form at a pair."""
    a, b, c = f
    return a * x * x + b * x * y + c * y * y


def turned(f, turn):
    """The form to which a turn leads one."""
    if not is_turn(turn):
        raise NotTurn()
    return led(f, turn)


def is_turn(value):
    """Whether a value is a turn."""
    if not is_tuple(value, 2) or not are_numbers(value[0], 2) or not are_numbers(value[1], 2):
        return False
    (p, q), (r, s) = value
    bound = raised(10, MOST_DIGITS)
    return max(abs(p), abs(q), abs(r), abs(s)) < bound and p * s - q * r == 1


def led(f, turn):
    """The form to which what is surely a turn leads one."""
    a, b, c = f
    (p, q), (r, s) = turn
    return (value_of(f, p, r), 2 * a * p * q + b * (p * s + q * r) + 2 * c * r * s, value_of(f, q, s))
