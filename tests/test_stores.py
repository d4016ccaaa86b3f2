import unittest

from numberpapers.errors import NotInStore, NotPaper, NotStore
from numberpapers.primepapers import is_prime_paper, paper_by, told_prime
from numberpapers.stores import joined, opened, pruned, store_breach, store_of
from tests.hard import HARD, HARD_PAPER, HARDER, HARDER_PAPER, tower
from tests.helpers import ANY, changed, refused, some, wide
from tests.judges import KNOWN, P, Q, tried
from tests.primes import PRIMES, breach, integer, is_prime, is_triple, lucas_paper_rows, part_rows, tree_rows
from tests.test_primepapers import GREAT_PAPERS

TWO = (2, ("tree", (2, 1, ())))
THREE = (3, ("tree", (3, 2, ((2, 1, ("see", 2)),))))
SEVEN = (7, ("tree", (7, 3, ((2, 1, ("see", 2)), (3, 1, ("see", 3))))))
TRIED = tuple((p, ("tried", p)) for p in (2, 3, 5))


def rows_of(paper):
    return paper[1][2] if paper[0] == "tree" else () if paper[0] == "tried" else paper[-1]


def has_rows(p, rows, size):
    if type(rows) is not tuple:
        return False
    last = 1
    for row in rows:
        if not is_triple(row, size) or not integer(row[0]) or row[0] <= last or not integer(row[1]) or not 1 <= row[1] <= 1000:
            return False
        if size == 4 and (not integer(row[2]) or not 2 <= row[2] <= p - 1):
            return False
        see = row[-1]
        if not is_triple(see, 2) or type(see[0]) is not str or see[0] != "see" or not integer(see[1]) or see[1] != row[0]:
            return False
        last = row[0]
    return True


def has_form(pair):
    if not is_triple(pair, 2) or not integer(pair[0]) or not 2 <= pair[0] <= 10 ** 300 or type(pair[1]) is not tuple or not pair[1] or type(pair[1][0]) is not str:
        return False
    p, paper = pair
    word, size = paper[0], len(paper)
    if word == "tree" and size == 2:
        tree = paper[1]
        return is_triple(tree, 3) and integer(tree[0]) and tree[0] == p and integer(tree[1]) and 1 <= tree[1] <= p - 1 and has_rows(p, tree[2], 3)
    if size < 2 or not integer(paper[1]) or paper[1] != p:
        return False
    if word == "part" and size == 3:
        return has_rows(p, paper[2], 4)
    if word == "lucas" and size == 5:
        return integer(paper[2]) and 0 <= paper[2] <= p - 1 and integer(paper[3]) and 1 <= paper[3] <= p - 1 and has_rows(p, paper[4], 3)
    return word == "tried" and size == 2 and p <= 10 ** 6


def is_right(p, paper):
    """All else that is asked of such a paper."""
    if paper[0] == "tree":
        return tree_rows(p, paper[1]) is not None
    if paper[0] == "part":
        return part_rows(p, paper) is not None
    if paper[0] == "lucas":
        return lucas_paper_rows(p, paper) is not None
    return is_prime(p)


def wrong(value):
    """What store_breach returns, by the words of [114]."""
    if type(value) is not tuple:
        return ("form", -1)
    for place, pair in enumerate(value):
        if not has_form(pair):
            return ("form", place)
        p, paper = pair
        ahead = dict(value[:place])
        if place and p <= value[place - 1][0]:
            return ("sequence", place)
        for row in rows_of(paper):
            if row[0] not in ahead or paper[0] == "tree" and ahead[row[0]][0] != "tree":
                return ("see", place)
        if not is_right(p, paper):
            return ("paper", place)
    return None


def parts_in(p, paper, in_tree=False):
    """All primes with their papers and trees within a paper, in the sequence of [115]."""
    if in_tree:
        paper = ("tree", paper)
    yield p, paper
    for row in rows_of(paper):
        yield from parts_in(row[0], row[-1], paper[0] == "tree")


def short(paper):
    rows = tuple(row[:-1] + (("see", row[0]),) for row in rows_of(paper))
    if paper[0] == "tree":
        return ("tree", paper[1][:2] + (rows,))
    return paper if paper[0] == "tried" else paper[:-1] + (rows,)


def stored(papers):
    """The store of papers, by the words."""
    met = [part for p, paper in papers for part in parts_in(p, paper)]
    found = []
    for p in sorted({p for p, _ in met}):
        mine = [paper for q, paper in met if q == p]
        found.append((p, short(next((paper for paper in mine if paper[0] == "tree"), mine[0]))))
    return tuple(found)


SOME = [(p, told_prime(p)[1]) for p in (2, 3, 5, 7, 11, 13, 101, 65537, 1000003, 10 ** 9 + 7)] + list(KNOWN) + [(HARD, HARD_PAPER), (HARDER, HARDER_PAPER)]
SOME += [(p, ("tried", p)) for p in (2, 3, 5, 7, 11, 13, 17)] + list(GREAT_PAPERS[:4])
for _p in (11, 17, 23, 29, 59, 419):
    for _known in (tried(2, 3, 5, 7, 11), tuple((q, told_prime(q)[1]) for q in (2, 3, 5, 7, 11))):
        _paper = paper_by(_p, tuple(pair for pair in _known if pair[0] < _p))
        if _paper is not None:
            SOME.append((_p, _paper))


class Breaches(unittest.TestCase):  # [114]
    def check(self, value, wanted="any"):
        found = store_breach(value)
        self.assertEqual(found, wrong(value), value)
        if wanted != "any":
            self.assertEqual(found, wanted, value)
        if found is not None:
            self.assertEqual((type(found), type(found[0]), type(found[1])), (tuple, str, int))
        return found

    def test_by_hand(self):
        lucas = (11, ("lucas", 11, 1, 3, ((2, 2, ("see", 2)), (3, 1, ("see", 3)))))
        part = (17, ("part", 17, ((2, 4, 3, ("see", 2)),)))
        for value, wanted in (
            ((), None), ((TWO,), None), ((TWO, THREE), None), ((TWO, THREE, SEVEN), None), (TRIED, None), ((TWO, part), None), (TRIED[:1] + (part,), None), ((THREE, TWO), ("see", 0)), ((THREE,), ("see", 0)), ((TWO, TWO), ("sequence", 1)),
            ((TWO, SEVEN), ("see", 1)), (TRIED[:1] + (THREE,), ("see", 1)), ((TWO,) + TRIED[1:2] + (SEVEN,), ("see", 2)), ([TWO], ("form", -1)), ((TWO, None), ("form", 1)), ((TWO, list(THREE)), ("form", 1)), (((4, ("tried", 4)),), ("paper", 0)),
            (((1, ("tried", 1)),), ("form", 0)), (((1000003, ("tried", 1000003)),), ("form", 0)), (((999983, ("tried", 999983)),), None), (((10 ** 6, ("tried", 10 ** 6)),), ("paper", 0)), (((2, ("tried", 3)),), ("form", 0)), (((2, ("tree", (2, 2, ()))),), ("form", 0)),
            (((3, ("tree", (3, 1, ((2, 1, ("see", 2)),)))),), ("see", 0)), ((TWO, (3, ("tree", (3, 1, ((2, 1, ("see", 2)),))))), ("paper", 1)), ((TWO, (3, ("tree", (3, 2, ((2, 1, ("see", 3)),))))), ("form", 1)), ((TWO, (3, ("tree", (3, 2, ((2, 1, ("saw", 2)),))))), ("form", 1)),
            ((TWO, (3, ("tree", (3, 2, ((2, 1, (2, 1, ())),))))), ("form", 1)), ((TWO, (3, ("tree", (3, 2, ((2, 0, ("see", 2)),))))), ("form", 1)), ((TWO, (3, ("tree", (3, 2, ((2, 1001, ("see", 2)),))))), ("form", 1)), ((TWO, (3, ("tree", (3, 2, ((2, 1000, ("see", 2)),))))), ("paper", 1)),
            ((TWO, (17, ("part", 17, ((2, 4, 17, ("see", 2)),)))), ("form", 1)), ((TWO, (17, ("part", 17, ((2, 4, 1, ("see", 2)),)))), ("form", 1)), ((TWO, (17, ("part", 17, ((2, 4, 2, ("see", 2)),)))), ("paper", 1)), ((TWO, (17, ("part", 17, ((2, 3, 3, ("see", 2)),)))), ("paper", 1)),
            ((TWO, (17, ("part", 17, ()))), ("paper", 1)), ((TWO, (2, ("part", 2, ()))), ("sequence", 1)), (((2, ("part", 2, ())),), ("paper", 0)), (((10 ** 300 + 1, ("part", 10 ** 300 + 1, ())),), ("form", 0)), (((10 ** 300, ("part", 10 ** 300, ())),), ("paper", 0)),
            ((TWO, (3, ("part", 3, ((2, 1, 2, ("see", 2)),)))), None), ((TWO, (3, ("part", 3, ((2, 1, 3, ("see", 2)),)))), ("form", 1)), ((TWO, THREE, (11, ("lucas", 11, 10, 1, ()))), ("paper", 2)), ((TWO, THREE, (11, ("lucas", 11, 0, 10, ()))), ("paper", 2)),
            ((TWO, THREE, (11, ("lucas", 11, 0, 11, ()))), ("form", 2)), ((TWO, THREE, (11, ("lucas", 11, -1, 1, ()))), ("form", 2)), ((TWO, THREE, lucas), "any"), ((TWO, THREE, (11, ("lucas", 11, 11, 3, ()))), ("form", 2)), ((TWO, THREE, (11, ("lucas", 11, 0, 0, ()))), ("form", 2)), ((TWO, THREE, (11, ("lucas", 11, 10, 10, ()))), ("paper", 2)), ((TWO, THREE, (11, ("lucas", 11, 1, True, ()))), ("form", 2)),
            (((7, ("tried", 7)), (5, None)), ("form", 1)), (((7, ("tried", 7)), (5, ("part", 5, ((2, 2, 2, ("see", 2)),)))), ("sequence", 1)), (((9, ("tree", (9, 2, ((2, 3, ("see", 2)),)))),), ("see", 0)), ((TWO, (9, ("tree", (9, 2, ((2, 3, ("see", 2)),))))), ("paper", 1)),
        ):
            self.check(value, wanted)

    def test_any_value(self):
        for value in ANY + (wide(5000),):
            self.check(value)
            self.check((value,))
            self.check((TWO, value))
            for word in ("tree", "part", "lucas", "tried"):
                for made in ((word, value), (word, 7, value), (word, 7, 1, 3, value), (word, (7, 3, value)), (value, 7), (word, value, ())):
                    self.check((TWO, THREE, (7, made)))
            self.check((TWO, (value, ("tried", 3))))
            self.check((TWO, (3, ("tree", (3, 2, ((2, 1, value),))))))

    def test_changed_stores(self):
        stores = [store_of((pair,)) for pair in SOME[3:9]] + [store_of(tuple(SOME[-6:])), store_of(((HARD, HARD_PAPER),)), TRIED]
        for store in stores:
            self.check(store, None)
            for value in list(changed(store))[::1 if len(store) < 5 else 3]:
                self.check(value)
            for at in range(len(store)):
                self.check(store[:at] + store[at + 1:])
                self.check(store[at:] + store[:at])


class Stores(unittest.TestCase):  # [115]
    def check(self, papers):
        store = store_of(papers)
        self.assertEqual(store, stored(papers))
        self.assertIsNone(store_breach(store))
        self.assertIsNone(wrong(store))
        for p, paper in store:
            found = opened(store, p)
            self.assertIsNone(breach(p, found))
            self.assertEqual(short(found), paper)
        return store

    def test_stores(self):
        source = some(761)
        self.assertEqual(self.check(()), ())
        for pair in SOME:
            store = self.check((pair,))
            self.assertLessEqual(len(store), pair[0].bit_length())
        for _ in range(120):
            self.check(tuple(source.choice(SOME) for _ in range(source.randrange(1, 7))))

    def test_primes_told_twice(self):
        tree, thirteen = told_prime(13)[1], paper_by(13, tried(2, 3))
        for papers, wanted in (
            (((13, ("tried", 13)), (13, tree)), "tree"), (((13, tree), (13, ("tried", 13))), "tree"), (((13, ("tried", 13)), (13, thirteen)), "tried"), (((13, thirteen), (13, ("tried", 13))), thirteen[0]),
            (((13, ("tried", 13)), (53, told_prime(53)[1])), "tree"),
        ):
            self.assertEqual(dict(self.check(papers))[13][0], wanted)
        # Two trees: the first one that is met.
        one, other = ("tree", (5, 2, ((2, 2, (2, 1, ())),))), ("tree", (5, 3, ((2, 2, (2, 1, ())),)))
        self.assertEqual(dict(self.check(((5, one), (5, other))))[5][1][1], 2)
        self.assertEqual(dict(self.check(((5, other), (5, one))))[5][1][1], 3)
        inner = ("tree", (11, 2, ((2, 1, (2, 1, ())), (5, 1, other[1]))))
        self.assertEqual(dict(self.check(((11, inner), (5, one))))[5][1][1], 3)

    def test_two_trees_within_one(self):
        # 683 - 1 is 2 * 11 * 31, and 5 divides both 11 - 1 and 31 - 1.
        two, three = (2, 1, ()), (3, 2, ((2, 1, (2, 1, ())),))
        for one, other in ((2, 3), (3, 2)):
            five, beside = ((5, g, ((2, 2, two),)) for g in (one, other))
            eleven, last = (11, 2, ((2, 1, two), (5, 1, five))), (31, 3, ((2, 1, two), (3, 1, three), (5, 1, beside)))
            paper = ("tree", (683, 5, ((2, 1, two), (11, 1, eleven), (31, 1, last))))
            self.assertEqual(dict(self.check(((683, paper),)))[5][1][1], one)
            part = ("part", 683, ((11, 1, 5, ("part", 11, ((5, 1, 2, ("tree", beside)),))), (31, 1, 5, ("tree", last))))
            self.assertEqual(dict(self.check(((683, part),)))[5][1][1], other)
            self.assertEqual(dict(self.check(((683, part), (683, paper))))[683][0], "tree")

    def test_papers_that_are_wrong(self):
        fine = (7, ("tried", 7))
        for value in ANY:
            refused(self, NotPaper, {"place": 0}, store_of, ((7, value),))
            refused(self, NotPaper, {"place": 1}, store_of, (fine, (7, value), (5, value)))
        refused(self, NotPaper, {"place": 0}, store_of, ((4, ("tried", 4)),))
        refused(self, NotPaper, {"place": 2}, store_of, (fine, fine, (10 ** 300, ("tried", 7))))
        for value in changed(told_prime(13)[1]):
            if breach(13, value) is not None:
                refused(self, NotPaper, {"place": 0}, store_of, ((13, value),))
            else:
                self.check(((13, value),))

    def test_opened(self):
        for p, paper in SOME:
            found = opened(store_of(((p, paper),)), p)
            if paper[0] == "tree":
                self.assertEqual(found, paper)
            self.assertIs(is_prime_paper(p, found), True)
        store = store_of(tuple(SOME))
        primes = [p for p, _ in store]
        for p in (0, 1, 4, -7, 6, 10 ** 400, primes[-1] + 2):
            refused(self, NotInStore, {"prime": p}, opened, store, p)
        refused(self, NotInStore, {"prime": 2}, opened, (), 2)
        for value in ANY + ((TWO, TWO), (THREE,), ((4, ("tried", 4)),)):
            found = wrong(value)
            if found is None:
                refused(self, NotInStore, {"prime": 2}, opened, value, 2)
            else:
                refused(self, NotStore, {"rule": found[0], "place": found[1]}, opened, value, 2)

    def test_a_tall_tower(self):
        for p in tower()[4:30:5]:
            if p < 10 ** 40:
                paper = told_prime(p)[1]
                store = self.check(((p, paper),))
                self.assertEqual(opened(store, p), paper)


class Joined(unittest.TestCase):  # [116]
    def test_joined(self):
        source = some(769)
        for _ in range(150):
            one, other = (store_of(tuple(source.choice(SOME) for _ in range(source.randrange(5)))) for _ in range(2))
            found = joined(one, other)
            self.assertIsNone(wrong(found))
            a, b = dict(one), dict(other)
            self.assertEqual([p for p, _ in found], sorted(set(a) | set(b)))
            for p, paper in found:
                if p in a and p in b:
                    self.assertEqual(paper, b[p] if b[p][0] == "tree" and a[p][0] != "tree" else a[p])
                else:
                    self.assertEqual(paper, a.get(p, b.get(p)))
            self.assertEqual(joined(one, one), one)
            self.assertEqual(joined(one, ()), one)
            self.assertEqual(joined((), one), one)

    def test_two_trees(self):
        one, other = (((5, ("tree", (5, g, ((2, 2, (2, 1, ())),)))),) for g in (2, 3))
        part = ((5, ("part", 5, ((2, 2, 2, ("tried", 2)),))),)
        for a, b in ((one, other), (other, one), (one, part), (part, one), (part, other), (one, one)):
            found = dict(joined(store_of(a), store_of(b)))
            wanted = dict(store_of(b if a is part else a))[5]
            self.assertEqual(found[5], wanted)
            self.assertEqual(found[2], ("tree", (2, 1, ())))

    def test_errors(self):
        for value in ANY + ((TWO, TWO), (THREE,), ((4, ("tried", 4)),)):
            found = wrong(value)
            if found is None:
                continue
            told = {"rule": found[0], "place": found[1]}
            refused(self, NotStore, told, joined, value, (TWO,))
            refused(self, NotStore, told, joined, (TWO,), value)
            refused(self, NotStore, told, joined, value, (THREE, TWO))
            refused(self, NotStore, {"rule": "see", "place": 0}, joined, (THREE, TWO), value)
            refused(self, NotStore, told, pruned, value, (2,))
            refused(self, NotStore, told, pruned, value, ())

    def test_pruned(self):
        source = some(773)
        whole = store_of(tuple(SOME))
        primes = [p for p, _ in whole]
        for _ in range(150):
            chosen = tuple(sorted(source.sample(primes, source.randrange(5))))
            found = pruned(whole, chosen)
            self.assertIsNone(wrong(found))
            kept, waiting = set(), list(chosen)
            while waiting:
                p = waiting.pop()
                if p not in kept:
                    kept.add(p)
                    waiting += [row[0] for row in rows_of(dict(whole)[p])]
            self.assertEqual(found, tuple(pair for pair in whole if pair[0] in kept))
        self.assertEqual(pruned(whole, ()), ())
        self.assertEqual(pruned((), ()), ())
        self.assertEqual(pruned(whole, tuple(primes)), whole)
        for chosen, missing in (((4,), 4), ((2, 4, 6), 4), ((-5, 2), -5), ((0,), 0), ((2, 10 ** 400), 10 ** 400), ((2, 3, 15, 10 ** 301), 15)):
            refused(self, NotInStore, {"prime": missing}, pruned, whole, chosen)
        refused(self, NotInStore, {"prime": 7}, pruned, (TWO, THREE), (2, 7))
        self.assertEqual((P in primes, Q in primes, len(PRIMES) > 10), (True, True, True))
