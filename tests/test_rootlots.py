import itertools
import math
import unittest

from numberpapers.errors import NotPrime, NotSimple, TooDeep
from numberpapers.rootlots import endless_root, endless_roots, is_endless_paper, root_count, root_figures, root_lots
from tests.helpers import ANY, changed, refused, some
from tests.primes import integer, is_triple
from tests.test_heights import NO_PRIMES, SMALL, high

DEEP = {"limit": 60}


def at(f, x):
    return sum(c * x ** k for k, c in enumerate(f))


def slope(f):
    return tuple(k * c for k, c in enumerate(f))[1:]


def times(f, g):
    found = [0] * (len(f) + len(g) - 1)
    for i, a in enumerate(f):
        for j, b in enumerate(g):
            found[i + j] += a * b
    return tuple(found)


def with_roots(*roots, factor=1):
    f = (factor,)
    for r in roots:
        f = times(f, (-r, 1))
    return f


def lots(f, p, k):
    """The full lots that lie within no other, by trying all of them."""
    full = {(r, j) for j in range(k + 1) for r in range(p ** j) if all(at(f, x) % p ** k == 0 for x in range(r, p ** k, p ** j))}
    return tuple(sorted((r, j) for r, j in full if not any((r % p ** i, i) in full for i in range(j))))


def determinant(table):
    """By the first column, entry by entry."""
    if len(table) == 1:
        return table[0][0]
    rest = [row[1:] for row in table]
    return sum((-1) ** k * row[0] * determinant(rest[:k] + rest[k + 1:]) for k, row in enumerate(table) if row[0])


def height_of(f, p):
    """h of [105], None for a determinant of 0."""
    d = len(f) - 1
    table = [[0] * k + list(f) + [0] * (d - 2 - k) for k in range(d - 1)] + [[0] * k + list(slope(f)) + [0] * (d - 1 - k) for k in range(d)]
    assert all(len(row) == 2 * d - 1 for row in table) and len(table) == 2 * d - 1
    D = determinant(table)
    return None if D == 0 else high(p, D)


def is_polynomial(f):
    return type(f) is tuple and 2 <= len(f) <= 9 and all(integer(c) and abs(c) <= 10 ** 30 for c in f) and f[-1] != 0


def content(f, p):
    return min(high(p, c) for c in f if c)


def inner(f, t, p):
    """f(t + p x)."""
    return tuple(sum(f[j] * math.comb(j, i) * t ** (j - i) for j in range(i, len(f))) * p ** i for i in range(len(f)))


def right_tree(f, p, tree, depth=0):
    g = tuple(c // p ** content(f, p) for c in f)
    ts = [t for t in range(p) if at(g, t) % p == 0]
    if type(tree) is not tuple or len(tree) != len(ts) or ts and depth == 60:
        return False
    return all(is_triple(pair, 2) and integer(pair[0]) and pair[0] == t and right_tree(inner(g, t, p), p, pair[1], depth + 1) for t, pair in zip(ts, tree))


def right_paper(value):
    """Whether a value is an endless paper, by the words of [104]."""
    if type(value) is not tuple or len(value) < 4 or type(value[0]) is not str:
        return False
    if value[0] not in ("root", "rootless") or not is_polynomial(value[1]) or not integer(value[2]) or value[2] not in SMALL:
        return False
    f, p = value[1:3]
    if value[0] == "rootless":
        return len(value) == 4 and right_tree(f, p, value[3])
    if len(value) != 5 or not integer(value[3]) or not integer(value[4]) or not 0 <= value[4] <= 60:
        return False
    _, _, _, r, e = value
    full = p ** (2 * e + 1)
    return 0 <= r < full and at(f, r) % full == 0 and at(slope(f), r) != 0 and high(p, at(slope(f), r)) == e


def some_polynomial(source, most, size=4):
    f = tuple(source.randrange(-most, most + 1) for _ in range(source.randrange(1, size)))
    return f + (source.choice((1, -1, source.randrange(1, most + 1))),)


class Lots(unittest.TestCase):  # [103]
    def check(self, f, p, k):
        found = root_lots(f, p, k)
        self.assertEqual(found, lots(f, p, k), (f, p, k))
        self.assertLessEqual(len(found), len(f) - 1)
        self.assertEqual(root_count(f, p, k), sum(at(f, r) % p ** k == 0 for r in range(p ** k)))

    def test_small_polynomials(self):
        source = some(661)
        for p, most in ((2, 7), (3, 4), (5, 3), (7, 2), (11, 2), (31, 1)):
            for _ in range(60):
                f = some_polynomial(source, source.choice((3, 12, p ** 3)), 6)
                for k in range(1, most + 1):
                    self.check(f, p, k)

    def test_double_roots_and_multiples(self):
        for f in (
            (0, 1, 1), (0, 0, 1), (0, 0, 0, 0, 1), with_roots(1, 1), with_roots(1, 3, 5), with_roots(0, 4, 8), with_roots(2, 2, 2, 4), (4, 8, 12), (8, 0, 8), (6, 6, 6), (0, 8), (7, 1), (1, 1, 0, 0, 0, 0, 0, 0, 1),
            with_roots(0, 1, 2, 3, 4, 5, 6, 7), with_roots(0, 1, 2, 3), with_roots(0, 1, 2), (36, 1, 0, 36), (9, 0, 27), (0, 2), (1, 2), (0, -1),
        ):
            for p, most in ((2, 7), (3, 4), (5, 3)):
                for k in range(1, most + 1):
                    self.check(f, p, k)

    def test_edges(self):
        self.assertEqual(root_lots((0, 1, 1), 2, 1), ((0, 0),))
        self.assertEqual(root_lots((0, 1), 2, 1), ((0, 1),))
        self.assertEqual(root_lots((2, 2), 2, 1), ((0, 0),))
        self.assertEqual(root_lots((1, 2), 2, 3), ())
        self.assertEqual(root_lots((1, 0, 1), 3, 1), ())
        self.assertEqual((root_count((2, 2), 2, 1), root_count((1, 2), 2, 9), root_count((0, 0, 1), 2, 4)), (2, 0, 4))
        # 8 neighbours have a product that 2 ** 7 divides.
        self.assertEqual(root_lots(with_roots(*range(8)), 2, 7), ((0, 0),))
        self.assertGreater(len(root_lots(with_roots(*range(8)), 2, 8)), 1)

    def test_great_powers(self):
        source = some(673)
        for p, k in ((2, 199), (3, 125), (5, 85), (7, 71), (997, 20), (991, 20), (31, 40)):
            for f in ((-2, 0, 1), (0, 0, 1), with_roots(1, 1 + p ** 5, 2), (p ** 8, 0, 1), (0, 1), (10 ** 30, -(10 ** 30), 7), some_polynomial(source, 10 ** 30, 9), (2 ** 99, 2 ** 98), (0,) * 8 + (1,)):
                found = root_lots(f, p, k)
                self.assertLessEqual(len(found), len(f) - 1)
                self.assertEqual(list(found), sorted(found))
                for r, j in found:
                    self.assertTrue(0 <= j <= k and 0 <= r < p ** j)
                    self.assertTrue(all(at(f, r + p ** j * x) % p ** k == 0 for x in range(len(f))))
                    if j:
                        self.assertFalse(all(at(f, r + p ** (j - 1) * x) % p ** k == 0 for x in range(len(f))))
                # No integer lies in two of them.
                for (r, j), (s, i) in itertools.combinations(found, 2):
                    self.assertNotEqual((r - s) % p ** min(i, j), 0)
                self.assertEqual(root_count(f, p, k), sum(p ** (k - j) for _, j in found))

    def test_roots_that_are_made(self):
        source = some(677)
        for _ in range(40):
            p = source.choice(SMALL[:40])
            roots = [source.randrange(10 ** 3) for _ in range(source.randrange(1, 5))]
            f, k = with_roots(*roots), source.randrange(1, 12)
            for r in roots:
                self.assertEqual(sum((r - s) % p ** j == 0 for s, j in root_lots(f, p, k)), 1)

    def test_no_primes(self):
        for p in NO_PRIMES:
            for f in ((0, 1), (1, 0, 1), (0, 0, 1)):
                refused(self, NotPrime, {}, root_lots, f, p, 1)
                refused(self, NotPrime, {}, root_count, f, p, 1)
                refused(self, NotPrime, {}, endless_root, f, p)
                refused(self, NotPrime, {}, endless_roots, f, p)


class Endless(unittest.TestCase):  # [104] to [106]
    def check(self, f, p):
        h = height_of(f, p)
        if h is None:
            refused(self, NotSimple, {}, endless_root, f, p)
            refused(self, NotSimple, {}, endless_roots, f, p)
            return "double"
        if 2 * h + 1 > 60:
            refused(self, TooDeep, DEEP, endless_root, f, p)
            refused(self, TooDeep, DEEP, endless_roots, f, p)
            return "deep"
        paper = endless_root(f, p)
        self.assertEqual(paper[1:3], (f, p))
        self.assertTrue(right_paper(paper), paper)
        self.assertIs(is_endless_paper(paper), True)
        lots_there = root_lots(f, p, 2 * h + 1)
        self.assertIs(paper[0] == "root", len(lots_there) > 0)
        self.ends(f, p, h, paper)
        return paper[0]

    def ends(self, f, p, h, paper):
        """The rests of all endless rows of figures."""
        size, rests = endless_roots(f, p)
        self.assertEqual(size, h + 1)
        self.assertEqual(list(rests), sorted(set(rests)))
        if p ** (2 * h + 1) < 3000:
            wanted = {r % p ** (h + 1) for r in range(p ** (2 * h + 1)) if at(f, r) % p ** (2 * h + 1) == 0}
            self.assertEqual(set(rests), wanted)
        self.assertIs(paper[0] == "root", len(rests) > 0)
        self.assertLessEqual(len(rests), len(f) - 1)
        if paper[0] == "root":
            figures = self.figures(paper)
            self.assertIn(sum(c * p ** k for k, c in enumerate(figures[:h + 1])), rests)

    def figures(self, paper):
        _, f, p, r, e = paper
        figures = root_figures(paper, 60)
        self.assertEqual(len(figures), 60)
        self.assertTrue(all(0 <= c < p for c in figures))
        total = 0
        for k, c in enumerate(figures):
            total += c * p ** k
            self.assertEqual(at(f, total) % p ** (k + 1), 0)
            if k == e:
                self.assertEqual((total - r) % p ** (e + 1), 0)
        for count in (0, 1, e, e + 1, 2 * e + 1, 59):
            self.assertEqual(root_figures(paper, count), figures[:count])
        return figures

    def test_small_polynomials(self):
        source = some(683)
        counts = {}
        for p in (2, 3, 5, 7, 31):
            for _ in range(80):
                word = self.check(some_polynomial(source, source.choice((2, 9, 60)), 5), p)
                counts[word] = counts.get(word, 0) + 1
        self.assertLessEqual({"root", "rootless", "double"}, set(counts))

    def test_by_hand(self):
        for f, p, wanted in (
            ((-2, 0, 1), 7, "root"), ((-2, 0, 1), 5, "rootless"), ((-17, 0, 1), 2, "root"), ((-3, 0, 1), 2, "rootless"), ((0, 0, 1), 2, "double"), ((1, 2, 1), 5, "double"), ((1, 2), 2, "rootless"),
            ((2, 4), 2, "rootless"), ((4, 2), 2, "root"), ((0, 1), 997, "root"), ((0, 1, 1), 2, "root"), ((1, 1, 1), 2, "rootless"), (with_roots(3, 3 + 2 ** 9), 2, "root"), ((5, 0, 0, 0, 0, 0, 0, 0, 1), 5, "rootless"),
            (with_roots(1, 2, 3, 4), 3, "root"), ((-1, 0, 0, 0, 0, 0, 0, 0, 1), 17, "root"), ((-1, 0, 0, 0, 0, 0, 0, 0, 1), 2, "root"), ((3 ** 6, 0, 1), 3, "rootless"), ((-(3 ** 6) * 7, 0, 1), 3, "root"), ((1, 0, 0, 0, 0, 0, 0, 0, 997), 997, "rootless"),
        ):
            self.assertEqual(self.check(f, p), wanted, (f, p))
        self.assertEqual(endless_roots((0, 1, 1), 2), (1, (0, 1)))
        self.assertEqual(endless_roots(with_roots(0, 1, 2), 2), (3, (0, 1, 2)))
        self.assertEqual(endless_roots((0, 1), 2), (1, (0,)))
        self.assertEqual(endless_roots((-1, 0, 1), 2), (3, (1, 7)))

    def test_depths(self):
        # x * x less p ** (2 k) has the determinant -4 p ** (2 k), or its negative.
        for p, k, word in ((3, 14, "root"), (3, 15, "deep"), (5, 14, "root"), (5, 15, "deep"), (2, 13, "root"), (2, 14, "deep"), (7, 1, "root")):
            self.assertEqual(self.check((-(p ** (2 * k)), 0, 1), p), word)
        for p, k, word in ((3, 29, "rootless"), (3, 30, "deep"), (3, 28, "rootless"), (5, 29, "rootless"), (5, 30, "deep"), (2, 27, "rootless"), (2, 29, "deep")):
            self.assertEqual(self.check((-(p ** k) * (2 if p > 2 and p != 7 else 3), 0, 1), p), word, (p, k))
        # A linear one: the determinant is its coefficient.
        for k, word in ((29, "root"), (30, "deep")):
            self.assertEqual(self.check((2 ** 40, 2 ** k), 2), word)
            self.assertEqual(self.check((2 ** (k - 1), 2 ** k), 2), "rootless" if word == "root" else word)
        self.assertEqual(self.check((10 ** 30, 1), 2), "root")
        self.assertEqual(self.check((0, 10 ** 30), 5), "deep")

    def test_great_polynomials(self):
        source = some(691)
        for _ in range(25):
            p = source.choice((2, 3, 5, 11, 101))
            f = some_polynomial(source, 10 ** 30, 4)
            self.check(f, p)
        for _ in range(6):
            f = tuple(source.randrange(-10 ** 30, 10 ** 30) for _ in range(9))
            for p in (2, 3, 17):
                try:
                    paper = endless_root(f, p)
                    self.assertTrue(right_paper(paper))
                    self.assertIs(paper[0] == "root", len(endless_roots(f, p)[1]) > 0)
                except (TooDeep, NotSimple):
                    pass

    def test_never_both(self):
        for f in ((-2, 0, 1), (0, 1, 1), (1, 0, 1), (-3, 0, 1), (4, 2), (1, 2), (6, 5, 1)):
            for p in (2, 3, 5, 7):
                roots = [is_endless_paper(("root", f, p, r, e)) for e in range(3) for r in range(p ** (2 * e + 1))]
                self.assertIs(endless_root(f, p)[0] == "root", any(roots))

    def test_all_root_papers(self):
        for f in ((-2, 0, 1), (0, 1, 1), (-17, 0, 1), (-1, 0, 1)):
            for p in (2, 3, 7):
                for e in range(3):
                    for r in range(p ** (2 * e + 1)):
                        paper = ("root", f, p, r, e)
                        self.assertIs(is_endless_paper(paper), right_paper(paper))
                        if right_paper(paper):
                            self.figures(paper)

    def test_the_range_of_the_root(self):
        for r, wanted in ((0, True), (7, False), (-7, False), (49, False)):
            self.assertIs(is_endless_paper(("root", (0, 1), 7, r, 0)), wanted)
        for r, wanted in ((0, True), (27, False), (9, True), (18, True), (-9, False), (36, False)):
            self.assertIs(is_endless_paper(("root", (0, 3), 3, r, 1)), wanted)

    def test_any_value(self):
        nest = ()
        for _ in range(60):
            nest = ((0, nest),)
        papers = [
            endless_root((-2, 0, 1), 7), endless_root((-2, 0, 1), 5), endless_root((-17, 0, 1), 2), endless_root((-3, 0, 1), 2), endless_root((-(3 ** 5) * 2, 0, 1), 3), endless_root((2, 4), 2),
            ("root", (0, 0, 1), 2, 0, 0), ("rootless", (0, 0, 1), 2, ()), ("rootless", (0, 0, 1), 2, ((0, ()),)), ("root", (1, 0, 10 ** 30), 3, 0, 0), ("root", (0, 10 ** 30 + 1), 3, 0, 0),
            ("root", (1, -1), 1009, 1, 0), ("root", (0, 1), 4, 0, 0), ("root", (0, 1), 997, 0, 0), ("rootless", (1, 1009), 1009, ()), ("rootless", (0, 1), 2, nest), ("root", (0, 2 ** 60), 2, 0, 60), ("root", (0, 2 ** 61), 2, 0, 61),
        ]
        for paper in papers:
            for value in [paper] + list(changed(paper)):
                self.assertIs(is_endless_paper(value), right_paper(value), value)
        for value in ANY:
            self.assertIs(is_endless_paper(value), False)
            for made in (("root", value, 7, 3, 0), ("root", (-2, 0, 1), value, 3, 0), ("root", (-2, 0, 1), 7, value, 0), ("root", (-2, 0, 1), 7, 3, value), ("rootless", value, 5, ()), ("rootless", (-2, 0, 1), value, ()), ("rootless", (-2, 0, 1), 5, value), ("rootless", (3, 0, 1), 3, ((0, value),))):
                self.assertIs(is_endless_paper(made), right_paper(made), made)

    def test_sixty_pairs(self):
        # (x - r) ** 2 - 3 * 4 ** k, with r near to the root: about k pairs lie within one another.
        found = {}
        for k in range(55, 65):
            r = math.isqrt(3 * 4 ** k)
            f = (r * r - 3 * 4 ** k, -2 * r, 1)
            self.assertTrue(is_polynomial(f))
            tree = self.made(f, 2, 80)
            deep, pairs = 0, tree
            while pairs:
                deep, pairs = deep + 1, pairs[0][1]
            found[deep] = is_endless_paper(("rootless", f, 2, tree))
            self.assertIs(found[deep], deep <= 60)
            self.assertIs(right_paper(("rootless", f, 2, tree)), deep <= 60)
        self.assertLessEqual({60, 61}, set(found))

    def made(self, f, p, most):
        """The tree to some depth."""
        g = tuple(c // p ** content(f, p) for c in f)
        return tuple((t, self.made(inner(g, t, p), p, most - 1)) for t in range(p) if at(g, t) % p == 0) if most else ()
