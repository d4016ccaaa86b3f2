"""Lattices, composed forms and their group."""

from numberpapers.common import combined, common_part
from numberpapers.errors import NotDiscriminant, NotPrimitive, NotSame, TooMany
from numberpapers.forms import discriminant
from numberpapers.reduced import is_primitive, reduced, reduced_forms
from numberpapers.soft import leftover_of
from numberpapers.trials import height_in

MOST_ORDER = 10000
# So many steps, as often as steps, make up all orders up to the greatest one.
STEPS = 100


def lattice_of(f):
    """The lattice of a form."""
    a, b, _ = f
    return (1, a, (b - discriminant(f) % 4) // 2 % a)


def lattice_form(D, lattice):
    """The form of a lattice."""
    _, A, k = lattice
    b = 2 * k + D % 4
    return (A, b, (b * b - D) // (4 * A))


def lattice_times(D, one, other):
    """The lattice of all sums of products of a number of the one and a number of the other lattice."""
    e, A, k = one
    f, B, j = other
    d = D % 4
    # The products x + y T of the first numbers of both lattices with the other ones, as pairs (x, y).
    m, h, g = A * B, A * j, A
    for x, y in ((B * k, B), (k * j + (D - d) // 4, k + j + d)):
        # All pairs so far are sums of multiples of (m, 0) and (h, g).
        common, s, t = combined(g, y)
        m = common_part(m, (y * h - g * x) // common)
        h, g = s * h + t * x, common
    # With each number its product with T is in the lattice, so g divides m and h.
    return (e * f * g, m // g, h // g % (m // g))


def check_primitive(f):
    """Refuse a form that is not primitive."""
    if not is_primitive(f):
        raise NotPrimitive()


def composed(f, g):
    """The reduced form alike to that of the product of the lattices of two forms."""
    check_primitive(f)
    check_primitive(g)
    if discriminant(f) != discriminant(g):
        raise NotSame()
    return surely_composed(f, g)


def surely_composed(f, g):
    """The same for forms that are primitive and of one discriminant."""
    D = discriminant(f)
    return reduced(lattice_form(D, lattice_times(D, lattice_of(f), lattice_of(g))))[0]


def one_of(D):
    """The reduced form of D that leaves all others as they are."""
    if D >= 0 or D % 4 in (2, 3):
        raise NotDiscriminant()
    return (1, D % 4, (D % 4 - D) // 4)


def back_of(f):
    """The reduced form that, composed with f, is the one."""
    check_primitive(f)
    return reduced((f[0], -f[1], f[2]))[0]


def power_of(f, k):
    """What comes of k times f composed."""
    check_primitive(f)
    found = one_of(discriminant(f))
    for place in reversed(range(k.bit_length())):
        found = surely_composed(found, found)
        if (k >> place) & 1:
            found = surely_composed(found, f)
    return found


def class_order(f):
    """The least k from 1 on for which k times f composed is the one."""
    check_primitive(f)
    one = one_of(discriminant(f))
    form = reduced(f)[0]
    steps = {}
    found = one
    for k in range(STEPS):
        steps[found] = k
        found = surely_composed(found, form)
        if found == one:
            return k + 1
    leap = found
    # All steps are unlike, so that the first leap that meets one tells the least k.
    for leaps in range(2, MOST_ORDER // STEPS + 1):
        found = surely_composed(found, leap)
        if found in steps:
            return leaps * STEPS - steps[found]
    raise TooMany(MOST_ORDER)


def classes(D):
    """Integers above 1, each dividing the next one, that tell the group of the reduced primitive forms of D."""
    orders = class_orders(D)
    found = []
    for p, _ in leftover_of(len(orders))[0]:
        for place, full in enumerate(cyclic_parts(p, orders)):
            if place == len(found):
                found.append(1)
            found[place] *= full
    return tuple(found[::-1])


def class_orders(D):
    """The orders of all reduced primitive forms of D."""
    orders = {}
    for f in reduced_forms(D):
        if f not in orders and is_primitive(f):
            powers = powers_upto_one(f)
            for place, power in enumerate(powers):
                orders[power] = len(powers) // common_part(place + 1, len(powers))
    return [orders[f] for f in orders]


def powers_upto_one(f):
    """The powers of a reduced primitive form from the first one to the first one that is the one."""
    one = one_of(discriminant(f))
    found = [f]
    while found[-1] != one:
        found.append(surely_composed(found[-1], f))
    return found


def cyclic_parts(p, orders):
    """The powers of a prime p, the greatest one first, that are rounds of a group with elements of these orders."""
    found = []
    full, count, more = p, 1, count_within(orders, p)
    while more > count:
        # Each round of at least so many elements makes p times as many of them come to the one.
        rounds = height_in(more // count, p)
        found = [full] * rounds + found[rounds:]
        full, count = full * p, more
        more = count_within(orders, full)
    return found


def count_within(orders, n):
    """How many of the orders divide n."""
    return len([d for d in orders if n % d == 0])
