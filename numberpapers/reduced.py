"""Reduced forms below zero."""

from math import isqrt

from numberpapers.common import common_part
from numberpapers.errors import NotDiscriminant, TooMany
from numberpapers.forms import is_turn, led
from numberpapers.kinds import is_told

MOST_FORMS = 40000
SAME = ((1, 0), (0, 1))
OPPOSITE = ((-1, 0), (0, -1))
QUARTER = ((0, -1), (1, 0))
SIXTH = ((0, -1), (1, 1))


def is_reduced(f):
    """Whether a form is reduced."""
    a, b, c = f
    return abs(b) <= a <= c and (b >= 0 or -b < a < c)


def reduced(f):
    """The reduced form alike to f, and a turn that leads f to it."""
    turn = SAME
    while not is_reduced(f):
        step = step_of(f)
        f = led(f, step)
        turn = turn_times(turn, step)
    return (f, turn)


def step_of(f):
    """A turn that leads a form that is not reduced nearer to a reduced one."""
    a, b, c = f
    # The middle entry comes above -a, and not above a.
    shift = (a - b) // (2 * a)
    return ((1, shift), (0, 1)) if shift != 0 else QUARTER


def turn_times(one, other):
    """The turn that leads a form as one does and then the other."""
    (p, q), (r, s) = one
    (t, u), (v, w) = other
    return ((p * t + q * v, p * u + q * w), (r * t + s * v, r * u + s * w))


def turn_back(turn):
    """The turn that leads back."""
    (p, q), (r, s) = turn
    return ((s, -q), (-r, p))


def is_alike(f, g):
    """Whether two forms are alike."""
    return reduced(f)[0] == reduced(g)[0]


def alike_paper(f, g):
    """("turn", turn) with a turn that leads f to g, or ("apart", one, other) with turns to unlike reduced forms."""
    (one, turn), (other, behind) = reduced(f), reduced(g)
    if one == other:
        return ("turn", turn_times(turn, turn_back(behind)))
    return ("apart", turn, behind)


def is_alike_paper(f, g, value):
    """Whether a value is such an answer."""
    if is_told(value, "turn", 2):
        return is_turn(value[1]) and led(f, value[1]) == g
    if not is_told(value, "apart", 3) or not is_turn(value[1]) or not is_turn(value[2]):
        return False
    one, other = led(f, value[1]), led(g, value[2])
    return is_reduced(one) and is_reduced(other) and one != other


def stabilizer(f):
    """All turns that lead a form to itself, ascending."""
    (a, b, c), turn = reduced(f)
    found = [SAME, OPPOSITE]
    if b == 0 and a == c:
        found = rounds_by(QUARTER, 4)
    elif a == b and a == c:
        found = rounds_by(SIXTH, 6)
    back = turn_back(turn)
    return tuple(sorted([turn_times(turn_times(turn, one), back) for one in found]))


def rounds_by(turn, count):
    """The first powers of a turn, so many."""
    found = [SAME]
    for _ in range(count - 1):
        found.append(turn_times(found[-1], turn))
    return found


def check_discriminant(D):
    """Refuse what is no discriminant below 0, and one that is too far below."""
    if D >= 0 or D % 4 in (2, 3):
        raise NotDiscriminant()
    if D < -MOST_FORMS:
        raise TooMany(MOST_FORMS)


def reduced_forms(D):
    """All reduced forms of a discriminant, ascending."""
    check_discriminant(D)
    found = []
    for a in range(1, isqrt(-D // 3) + 1):
        for b in range(1 - a, a + 1):
            c = (b * b - D) // (4 * a)
            if (b * b - D) % (4 * a) == 0 and is_reduced((a, b, c)):
                found.append((a, b, c))
    return tuple(found)


def class_number(D):
    """How many of the reduced forms of a discriminant are primitive."""
    return len([f for f in reduced_forms(D) if is_primitive(f)])


def is_primitive(f):
    """Whether the entries of a form have no common part above 1."""
    return common_part(common_part(f[0], f[1]), f[2]) == 1


def least_values(f):
    """The least values of f at pairs that are not multiples of those ahead."""
    (a, b, c), _ = reduced(f)
    return (a, c, a + c - abs(b))
