"""Signs by odd numbers, with and without their parts."""

from numberpapers.kinds import same_nest
from numberpapers.powers import power


def euler(a, p):
    """0 if an odd prime p divides a, otherwise 1 or -1, by whether a is a square modulo p."""
    rest = power(a, (p - 1) // 2, p)
    return -1 if rest == p - 1 else rest


def gauss_count(a, p):
    """How many of the rests of the multiples of a by p, up to that by (p - 1) / 2, are above (p - 1) / 2."""
    half = (p - 1) // 2
    return len([j for j in range(1, half + 1) if j * a % p > half])


def floor_sum(a, p):
    """The sum of the quotients by p of the multiples of the rest of a, up to that by (p - 1) / 2."""
    rest = a % p
    return sum([j * rest // p for j in range(1, (p - 1) // 2 + 1)])


def sign(a, n):
    """The sign of a by an odd n."""
    return sign_told(sign_sheet(a, n))


def sign_told(sheet):
    """The sign that a sign sheet tells."""
    b, m, s = sheet[-1]
    return s if b == 1 or m == 1 else 0


def sign_sheet(a, n):
    """A sign sheet of (a, n)."""
    sheet = [(a, n, 1)]
    while not is_last(sheet[-1]):
        sheet.append(next_triples(sheet[-1])[0])
    return tuple(sheet)


def is_last(triple):
    """Whether a triple may end a sign sheet."""
    b, m, _ = triple
    return b == 0 or b == 1 and m > 1


def next_triples(triple):
    """The triples that the rules make of one; that of the rule rest, where it may be taken, comes first."""
    b, m, s = triple
    found = []
    if b < 0 or b >= m:
        found.append((b % m, m, s))
    if b > 0 and b % 2 == 0:
        found.append((b // 2, m, s * sign_of_two(m)))
    if b % 2 == 1 and 1 < b < m:
        found.append((m, b, -s if b % 4 == 3 and m % 4 == 3 else s))
    return found


def sign_of_two(m):
    """The sign of 2 by an odd m."""
    return 1 if m % 8 in (1, 7) else -1


def is_sign_sheet(a, n, value):
    """Whether a value is a sign sheet of (a, n)."""
    if not isinstance(value, tuple) or len(value) == 0 or not same_nest(value[0], (a, n, 1)):
        return False
    # All that is found right is a triple of numbers, so that the rules can go on from it.
    for place in range(1, len(value)):
        fitting = [triple for triple in next_triples(value[place - 1]) if same_nest(value[place], triple)]
        if len(fitting) == 0:
            return False
    return is_last(value[-1])


def sign_sum(b, c, p):
    """The sum of euler(x * x + b * x + c, p) over all x from 0 to p - 1."""
    return p - 1 if (b * b - 4 * c) % p == 0 else -1


def square_neighbours(p):
    """How many x from 1 to p - 2 there are for which x and x + 1 are squares."""
    return (p - 4 - euler(-1, p)) // 4
