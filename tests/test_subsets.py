import itertools
import math
import unittest

from numberpapers.errors import NotSmooth
from numberpapers.subsets import square_subset, subset_breach
from tests.helpers import ANY, changed, refused, some
from tests.primes import PRIMES, integer, is_triple, leftover


def is_square(n):
    return math.isqrt(n) ** 2 == n


def ascending(value, low, high):
    if type(value) is not tuple or not all(integer(x) and low <= x <= high for x in value):
        return False
    return list(value) == sorted(set(value))


def height(n, p):
    e = 0
    while n % p == 0:
        n, e = n // p, e + 1
    return e


def right(rows, value):
    """What subset_breach returns for rows without great primes."""
    form = is_triple(value, 2) and type(value[0]) is str
    if form and value[0] == "subset" and ascending(value[1], 0, len(rows) - 1) and value[1]:
        return None if is_square(math.prod(rows[k] for k in value[1])) else ("square",)
    if not form or value[0] != "apart" or not is_triple(value[1], len(rows)):
        return ("form",)
    if not all(ascending(s, 2, 10 ** 5) and all(PRIMES_TO[p] for p in s) for s in value[1]):
        return ("form",)
    for i, s in enumerate(value[1]):
        for j, n in enumerate(rows):
            if sum(height(n, p) for p in s) % 2 != (i == j):
                return ("sum", i, j)
    return None


PRIMES_TO = [False] * (10 ** 5 + 1)
for prime in PRIMES:
    PRIMES_TO[prime] = True


class Subsets(unittest.TestCase):  # [54]
    def check(self, rows):
        value = square_subset(rows)
        self.assertIsNone(right(rows, value), (rows, value))
        self.assertIsNone(subset_breach(rows, value))
        return value[0]

    def test_small_rows(self):
        source = some(271)
        kinds = {"subset": 0, "apart": 0}
        for _ in range(2500):
            size = source.randrange(1, 7)
            rows = tuple(math.prod(source.choice((2, 3, 5, 7, 11, 13)) for _ in range(source.randrange(0, 6))) for _ in range(size))
            kind = self.check(rows)
            kinds[kind] += 1
            some_square = any(
                is_square(math.prod(chosen)) for k in range(1, size + 1) for chosen in itertools.combinations(rows, k)
            )
            self.assertEqual(kind, "subset" if some_square else "apart")
        self.assertGreater(min(kinds.values()), 300)

    def test_by_hand(self):
        self.assertEqual(square_subset((1,)), ("subset", (0,)))
        self.assertEqual(square_subset((4,)), ("subset", (0,)))
        self.assertEqual(square_subset((2,)), ("apart", ((2,),)))
        self.assertEqual(square_subset((2, 2)), ("subset", (0, 1)))
        self.assertEqual(self.check((2, 3, 6)), "subset")
        self.assertEqual(self.check((2, 6, 30)), "apart")
        self.assertEqual(self.check((6, 10, 15)), "subset")
        self.assertEqual(self.check((1,) * 40), "subset")
        self.assertEqual(self.check((99991,)), "apart")
        self.assertEqual(self.check((99991, 99991 * 2, 2)), "subset")

    def test_forty_entries(self):
        source = some(277)
        self.assertEqual(self.check(tuple(PRIMES[:40])), "apart")
        self.assertEqual(self.check(tuple(PRIMES[-40:])), "apart")
        # More entries than primes.
        for _ in range(20):
            rows = []
            while len(rows) < 40:
                n = math.prod(source.choice(PRIMES[:39]) for _ in range(20))
                if n <= 10 ** 40:
                    rows.append(n)
            self.assertEqual(self.check(tuple(rows)), "subset")
        kinds = set()
        for size in (39, 40, 41, 60, 200, 9000):
            for _ in range(4):
                rows = tuple(math.prod(source.choice(PRIMES[:size]) for _ in range(8)) for _ in range(40))
                kinds.add(self.check(rows))
        self.assertEqual(kinds, {"subset", "apart"})
        self.check((10 ** 40,) * 2 + (2 ** 132, 3 ** 83))

    def test_no_entry_may_have_a_great_prime(self):
        for bad in (100003, 100003 ** 2, 100003 ** 8, 2 * 100003, 10 ** 40 - 17):
            for place in (0, 1, 39):
                rows = (4,) * place + (bad,) + (100019,) * (39 - place)
                refused(self, NotSmooth, {"place": place}, square_subset, rows)
                for value in (None, ("subset", (0,)), ("apart", ())):
                    refused(self, NotSmooth, {"place": place}, subset_breach, rows, value)

    def test_the_breaches(self):
        rows = (2, 3, 12, 5)
        for value, wanted in (
            (("subset", (1, 2)), None), (("subset", (0, 1)), ("square",)), (("subset", (0,)), ("square",)), (("subset", ()), ("form",)),
            (("subset", (2, 1)), ("form",)), (("subset", (1, 1)), ("form",)), (("subset", (1, 4)), ("form",)), (("subset", (-1,)), ("form",)),
            (("subset", (True, 2)), ("form",)), (("subset", [1, 2]), ("form",)), (("apart", ((2,), (3,), (2,), (5,))), ("sum", 1, 2)),
            (("apart", ((2,), (3,), (2,))), ("form",)), (("apart", ((2,), (3,), (4,), (5,))), ("form",)), (("apart", ((), (3,), (2,), (5,))), ("sum", 0, 0)),
            (("apart", ((2,), (3,), (2,), (100003,))), ("form",)), (("apart", ((2,), (3,), (2,), (5, 5))), ("form",)), (("set", ()), ("form",)),
        ):
            self.assertEqual(subset_breach(rows, value), wanted, value)
            self.assertEqual(right(rows, value), wanted, value)
        self.assertIsNone(subset_breach((2, 3), ("apart", ((2, 99991), (3, 5)))))
        self.assertEqual(subset_breach((2, 6), ("apart", ((2,), (3,)))), ("sum", 0, 1))
        self.assertIsNone(subset_breach((2, 6), ("apart", ((2, 3), (3,)))))

    def test_any_value(self):
        for rows in ((2, 3), (4,), (1, 1), (2, 3, 6, 5, 10), (6, 10, 14)):
            value = square_subset(rows)
            for other in list(ANY) + list(changed(value)) + [value]:
                self.assertEqual(subset_breach(rows, other), right(rows, other), (rows, other))
            for inner in ANY:
                for other in (("subset", inner), ("apart", inner), ("apart", (inner,) * len(rows))):
                    self.assertEqual(subset_breach(rows, other), right(rows, other), (rows, other))
