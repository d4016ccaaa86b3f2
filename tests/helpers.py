"""What several tests use: values of other kinds, changed nests, rows made another way."""

import random

STRANGE = (
    None, True, False, 0, 1, -1, 2, 7, 10 ** 400, -(10 ** 400), 1.0, 2.5, "", "x", "tree", b"", b"ab", [], (), {}, set(),
    [1, 2], (1,), (1, 2), (1, 2, 3), (1, 2, 3, 4, 5), ("x",), ("x", 1), ((),), ((), ()), ((1, 2), (3, 4)), (None, None),
    (True, True), ([], []), ("tree", ()), ("tried", True), ("none", ()), ("x", ()), ("y", ()), ("sheet", 1, ()), object,
)


def deep(depth):
    """A nest of tuples so deep."""
    value = ()
    for _ in range(depth):
        value = (value,)
    return value


def wide(size):
    """A tuple of so many things of all kinds."""
    return tuple(STRANGE[k % len(STRANGE)] for k in range(size))


ANY = STRANGE + (deep(190), wide(5000), [deep(20)], (wide(50), wide(50)))


def others(value):
    """Things of other kinds, or near by, that may stand where the value stands."""
    found = [None, True, False, "", "x", -1, 0, 1, 2, 1.5, (), [], (1,), (1, 2), (value,), [value], 10 ** 400, -(10 ** 400)]
    if isinstance(value, int):
        found += [value + 1, value - 1, -value, float(value) if abs(value) < 10 ** 15 else None, str(value), 2 * value]
    if isinstance(value, str):
        found += [value + "x", value[:-1], value.upper(), (value,)]
    if isinstance(value, tuple):
        found += [list(value), value + (1,), value + ((),), value[:-1], value[1:], value[::-1], value + value[-1:]]
    return found


def differs(one, other):
    """Whether two values differ, kinds included, at any depth."""
    if type(one) is not type(other):
        return True
    if isinstance(one, (tuple, list)):
        return len(one) != len(other) or any(differs(a, b) for a, b in zip(one, other))
    return one != other


def changed(value):
    """All nests that come of a nest when one thing in it, at any place and depth, is changed."""
    for other in others(value):
        if differs(other, value):
            yield other
    if isinstance(value, tuple):
        for place, entry in enumerate(value):
            for other in changed(entry):
                yield value[:place] + (other,) + value[place + 1:]


def row(n, base):
    """The row of a number."""
    digits = []
    while n:
        digits.append(n % base)
        n //= base
    return (base, tuple(digits))


def number(some_row):
    """The number of a row."""
    base, digits = some_row
    total = 0
    for digit in digits[::-1]:
        total = base * total + digit
    return total


def some(seed):
    """A source of the same numbers in each run."""
    return random.Random(seed)


def some_row(source, base, size):
    """A row of so many digits."""
    if size == 0:
        return (base, ())
    kind = source.randrange(4)
    if kind == 0:
        return (base, (base - 1,) * size)
    if kind == 1:
        return (base, (0,) * (size - 1) + (source.randrange(1, base),))
    return (base, tuple(source.randrange(base) for _ in range(size - 1)) + (source.randrange(1, base),))


def attributes(error):
    """The attributes of an error."""
    return dict(vars(error))


def refused(test, wanted, told, function, *arguments, **named):
    """Check that a call raises just this error with these attributes."""
    with test.assertRaises(wanted) as caught:
        function(*arguments, **named)
    test.assertIs(type(caught.exception), wanted)
    test.assertEqual(attributes(caught.exception), told)
    test.assertFalse([v for v in attributes(caught.exception).values() if isinstance(v, bool)])
