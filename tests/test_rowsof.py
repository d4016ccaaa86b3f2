import math
import unittest

from numberpapers.errors import NotRow, NotTurned, NotWord
from numberpapers.rowsof import entrywise, product_of, row_by_powers, splits, splits_always, turned_back, values_row
from tests.helpers import ANY, STRANGE, changed, refused, some
from tests.judges import factors
from tests.primes import integer

WORDS = ("one", "ones", "self", "moebius", "units", "count", "sum", "signs", "squares")


def value(word, n):
    """The value of a word at n, by its words."""
    parts = factors(n)
    return {
        "one": int(n == 1), "ones": 1, "self": n,
        "moebius": 0 if any(e > 1 for _, e in parts) else (-1) ** len(parts),
        "units": math.prod(p ** (e - 1) * (p - 1) for p, e in parts), "count": math.prod(e + 1 for _, e in parts),
        "sum": math.prod((p ** (e + 1) - 1) // (p - 1) for p, e in parts), "signs": (-1) ** sum(e for _, e in parts),
        "squares": int(math.isqrt(n) ** 2 == n),
    }[word]


def is_row(f):
    return type(f) is tuple and 1 <= len(f) <= 2000 and all(map(integer, f))


def product(f, g):
    return tuple(sum(f[d - 1] * g[n // d - 1] for d in range(1, n + 1) if n % d == 0) for n in range(1, len(f) + 1))


def does_split(f, always=False):
    size = range(1, len(f) + 1)
    pairs = [(a, b) for a in size for b in size if a * b <= len(f) and (always or math.gcd(a, b) == 1)]
    return f[0] == 1 and all(f[a * b - 1] == f[a - 1] * f[b - 1] for a, b in pairs)


def some_values(source, size, least=1, most=9):
    return (source.choice((1, -1)) if least else source.randrange(-most, most + 1),) + tuple(source.randrange(-most, most + 1) for _ in range(size - 1))


def some_split(source, size, always=False):
    """A row that splits, or splits always."""
    kept = {}
    for n in range(2, size + 1):
        parts = factors(n)
        if len(parts) == 1:
            p, e = parts[0]
            kept[n] = kept[p] ** e if always and e > 1 else source.randrange(-4, 5)
    return tuple(math.prod(kept[p ** e] for p, e in factors(n)) for n in range(1, size + 1))


class Words(unittest.TestCase):  # [95]
    def test_values(self):
        for word in WORDS:
            for size in (1, 2, 3, 10, 300):
                self.assertEqual(values_row(word, size), tuple(value(word, n) for n in range(1, size + 1)), word)
            row = values_row(word, 2000)
            self.assertEqual(len(row), 2000)
            for n in (1, 2, 4, 1024, 1999, 2000, 1936, 1680, 1331):
                self.assertEqual(row[n - 1], value(word, n))

    def test_no_words(self):
        for word in ("", "x", "One", "ones ", "sums", "unit", "moebius\n", "0", "twos", "selfs", "product"):
            for size in (1, 5, 2000):
                refused(self, NotWord, {}, values_row, word, size)

    def test_what_they_are(self):
        row = {word: values_row(word, 500) for word in WORDS}
        for word, one, other in (("units", "self", "moebius"), ("count", "ones", "ones"), ("sum", "self", "ones"), ("one", "ones", "moebius"), ("squares", "signs", "ones")):
            self.assertEqual(product_of(row[one], row[other]), row[word])
        for word in WORDS:
            self.assertIs(splits(row[word]), True)
            self.assertIs(splits_always(row[word]), word in ("one", "ones", "self", "signs"))


class Products(unittest.TestCase):  # [95]
    def test_products(self):
        source = some(593)
        for size in (1, 2, 3, 7, 30, 100):
            for _ in range(10):
                f, g, h = (some_values(source, size, 0) for _ in range(3))
                self.assertEqual(product_of(f, g), product(f, g))
                self.assertEqual(product_of(g, f), product_of(f, g))
                self.assertEqual(product_of(product_of(f, g), h), product_of(f, product_of(g, h)))
                self.assertEqual(product_of(f, values_row("one", size)), f)
                self.assertEqual(entrywise(f, g), tuple(a * b for a, b in zip(f, g)))

    def test_great_rows(self):
        source = some(599)
        f, g = some_values(source, 2000, 0, 10 ** 400), some_values(source, 2000, 1, 10 ** 400)
        for n in (1, 2, 1999, 2000, 1680):
            self.assertEqual(product_of(f, g)[n - 1], sum(f[d - 1] * g[n // d - 1] for d in range(1, n + 1) if n % d == 0))
        self.assertEqual(entrywise(f, g)[1999], f[1999] * g[1999])
        self.assertEqual(product_of(g, turned_back(g)), values_row("one", 2000))

    def test_turned_back(self):
        source = some(601)
        for size in (1, 2, 5, 40, 200):
            one = values_row("one", size)
            for _ in range(10):
                f = some_values(source, size)
                g = turned_back(f)
                self.assertEqual(product(f, g), one)
                self.assertEqual(turned_back(g), f)
        self.assertEqual((turned_back((1,)), turned_back((-1,)), turned_back((-1, 3))), ((1,), (-1,), (-1, -3)))
        self.assertEqual(turned_back(values_row("ones", 2000)), values_row("moebius", 2000))
        for f in ((0,), (2,), (-2, 1), (0, 1, 1), (10 ** 400,)):
            refused(self, NotTurned, {}, turned_back, f)

    def test_any_value(self):
        right = (1, 2, 3)
        values = list(ANY) + list(changed(right)) + [tuple(range(2000)), tuple(range(2001)), (1,) * 2000, (1,) * 1999 + (True,), (0.5,), ((1,),)]
        values += [(inner,) for inner in STRANGE] + [(1, inner) for inner in STRANGE] + [(1, 2, inner) for inner in STRANGE]
        for f in values:
            for function in (product_of, entrywise):
                self.judged(function, f, right)
                self.judged(function, right, f)
                self.judged(function, f, f)
                self.judged(function, f, None)
                self.judged(function, f, (1, 2))
            for function in (turned_back, splits, splits_always, row_by_powers):
                if not is_row(f):
                    refused(self, NotRow, {"place": 0}, function, f)
                elif function is turned_back and f[0] not in (1, -1):
                    refused(self, NotTurned, {}, function, f)
                elif function is splits or function is splits_always:
                    self.assertIs(function(f), does_split(f, function is splits_always))
                else:
                    self.assertTrue(is_row(function(f)))

    def judged(self, function, f, g):
        if not is_row(f):
            refused(self, NotRow, {"place": 0}, function, f, g)
        elif not is_row(g) or len(f) != len(g):
            refused(self, NotRow, {"place": 1}, function, f, g)
        else:
            self.assertEqual(len(function(f, g)), len(f))


class Splits(unittest.TestCase):  # [96]
    def test_small_rows(self):
        source = some(607)
        for f in ((1,), (-1,), (0,), (2,), (1, 0), (0, 0), (0, 0, 0, 0), (1, 2, 3, 5, 7, 6), (1, 2, 3, 4, 5, 6), (1, 2, 3, 4, 5, 7), (1, 0, 0, 1)):
            self.assertIs(splits(f), does_split(f))
            self.assertIs(splits_always(f), does_split(f, True))
        for _ in range(300):
            f = some_split(source, source.randrange(1, 60), source.random() < .5)
            if source.random() < .5:
                at = source.randrange(len(f))
                f = f[:at] + (f[at] + source.choice((0, 1)),) + f[at + 1:]
            self.assertIs(splits(f), does_split(f))
            self.assertIs(splits_always(f), does_split(f, True))

    def test_just_one_wrong_value(self):
        f = values_row("self", 2000)
        self.assertIs(splits_always(f), True)
        for n in (1, 2, 3, 4, 6, 1000, 1024, 1849, 1990, 1998, 2000):
            wrong = f[:n - 1] + (f[n - 1] + 1,) + f[n:]
            self.assertIs(splits_always(wrong), False)
            self.assertIs(splits(wrong), n in (1024, 1849))
        # 1997 and 1999 are prime, and twice they are not in the row.
        for n in (1997, 1999):
            wrong = f[:n - 1] + (5,) + f[n:]
            self.assertIs(splits(wrong), True)
            self.assertIs(splits_always(wrong), True)

    def test_by_powers(self):
        source = some(613)
        for size in (1, 2, 6, 50, 400, 2000):
            f = some_values(source, size, 0)
            g = row_by_powers(f)
            self.assertEqual(g, tuple(math.prod(f[p ** e - 1] for p, e in factors(n)) for n in range(1, size + 1)))
            self.assertIs(splits(g), True)
            self.assertEqual(row_by_powers(g), g)
        self.assertEqual(row_by_powers((0,)), (1,))
        self.assertEqual(row_by_powers((7, 2, 3, 4, 5, 0)), (1, 2, 3, 4, 5, 6))

    def test_sentences(self):
        source = some(617)
        for _ in range(60):
            size = source.randrange(1, 120)
            f, g = some_split(source, size), some_split(source, size, source.random() < .5)
            self.assertIs(splits(product_of(f, g)), True)
            for h in (f, g):
                back = turned_back(h)
                self.assertIs(splits(back), True)
                self.assertIs(splits_always(h), back == entrywise(h, values_row("moebius", size)))
