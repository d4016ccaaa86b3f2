"""River forms and their rounds."""

from math import isqrt

from numberpapers.errors import NotDiscriminant, NotRiver, NotSame, TooMany
from numberpapers.forms import discriminant, is_turn, led
from numberpapers.kinds import are_numbers, is_told
from numberpapers.reduced import QUARTER, SAME, turn_back, turn_times

ABOVE_ENTRIES = (10 ** 50) ** 2
ABOVE_DISCRIMINANTS = (10 ** 40) ** 2
MOST_LETTERS = 5000
MOST_RINGS = 20000


def river_breach(value):
    """None for a river form, otherwise the word of the rule that is broken."""
    if not are_numbers(value, 3) or max([abs(entry) for entry in value]) >= ABOVE_ENTRIES:
        return "form"
    if not has_both_signs(value):
        return "sign"
    D = discriminant(value)
    if D >= ABOVE_DISCRIMINANTS:
        return "great"
    return "square" if is_square(D) else None


def has_both_signs(f):
    """Whether the first entry of a form is above 0 and the last one below 0."""
    return f[0] > 0 and f[2] < 0


def is_square(n):
    """Whether a number from 0 on is a square."""
    root = isqrt(n)
    return root * root == n


def check_river(value):
    """The value itself, if it is a river form."""
    rule = river_breach(value)
    if rule is not None:
        raise NotRiver(rule)
    return value


def river_step(f):
    """The letter of the step from a river form, and the river form that it comes to."""
    a, b, c = f
    s = a + b + c
    return ("l", (s, b + 2 * c, c)) if s > 0 else ("r", (a, b + 2 * a, s))


def river_back(f):
    """The letter of the step to a river form, and the river form that it begins at."""
    a, b, c = f
    s = a - b + c
    return ("l", (s, b - 2 * c, c)) if s > 0 else ("r", (a, b - 2 * a, s))


def river(f):
    """The text of the letters of one round of a river form, and its forms."""
    return round_upto(f, MOST_LETTERS)


def round_upto(f, most):
    """The same for rounds of at most so many letters."""
    letters, forms = [], []
    form = f
    while len(forms) == 0 or form != f:
        if len(forms) == most:
            raise TooMany(most)
        forms.append(form)
        letter, form = river_step(form)
        letters.append(letter)
    return ("".join(letters), tuple(forms))


def round_by(f, value):
    """The forms of one round begun at f, if a value is the text of its letters, otherwise None."""
    if not isinstance(value, str):
        return None
    forms = []
    form = f
    for letter in value:
        if form == f and len(forms) > 0:
            return None
        forms.append(form)
        right, form = river_step(form)
        if letter != right:
            return None
    return forms if form == f and len(forms) > 0 else None


def turn_by(letters):
    """The turn that leads a river form as the letters of its steps do."""
    (p, q), (r, s) = SAME
    for letter in letters:
        if letter == "l":
            p, r = p + q, r + s
        else:
            q, s = p + q, r + s
    return ((p, q), (r, s))


def to_river(f):
    """A turn that leads a form to a river form, and that one."""
    turn = SAME
    while not has_both_signs(f):
        step = step_of(f)
        f = led(f, step)
        turn = turn_times(turn, step)
    return (turn, f)


def step_of(f):
    """A turn that leads a form that is no river form nearer to one."""
    a, b, c = f
    if a < 0 < c:
        return QUARTER
    # The middle entry comes above -|a|, and not above |a|; then the last one is less, or of another sign.
    shift = (abs(a) - b) // (2 * abs(a))
    if shift == 0:
        return QUARTER
    return ((1, shift if a > 0 else -shift), (0, 1))


def check_same(f, g):
    """Refuse two forms of unlike discriminants."""
    if discriminant(f) != discriminant(g):
        raise NotSame()


def alike_above(f, g):
    """("turn", turn) with a turn that leads f to g, or ("apart", one, other, letters), which bars all of them."""
    check_same(f, g)
    (one, begin), (other, goal) = to_river(f), to_river(g)
    letters, forms = river(begin)
    if goal not in forms:
        return ("apart", one, other, letters)
    between = turn_by(letters[:forms.index(goal)])
    return ("turn", turn_times(turn_times(one, between), turn_back(other)))


def is_alike_above(f, g, value):
    """Whether a value is such an answer."""
    check_same(f, g)
    if is_told(value, "turn", 2):
        return is_turn(value[1]) and led(f, value[1]) == g
    if not is_told(value, "apart", 4) or not is_turn(value[1]) or not is_turn(value[2]):
        return False
    begin, goal = led(f, value[1]), led(g, value[2])
    if river_breach(begin) is not None or river_breach(goal) is not None:
        return False
    forms = round_by(begin, value[3])
    return forms is not None and goal not in forms


def rings(D):
    """All rounds of river forms of a discriminant, each begun with its least form, ascending."""
    if D <= 0 or D % 4 in (2, 3) or is_square(D):
        raise NotDiscriminant()
    if D > MOST_RINGS:
        raise TooMany(MOST_RINGS)
    forms = river_forms(D)
    met = {}
    found = []
    for f in forms:
        if f in met:
            continue
        ring = round_upto(f, len(forms))[1]
        found.append(ring)
        for g in ring:
            met[g] = True
    return tuple(found)


def river_forms(D):
    """All river forms of a discriminant, ascending."""
    found = []
    most = isqrt(D)
    for b in range(-most, most + 1):
        product = (D - b * b) // 4
        if (D - b) % 2 != 0:
            continue
        for a in range(1, isqrt(product) + 1):
            if product % a == 0:
                found.extend([(a, b, -(product // a)), (product // a, b, -a)])
    return sorted(set(found))
