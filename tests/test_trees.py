import unittest

from numberpapers.errors import NotPrime, TooHard
from numberpapers.trees import entries, is_tree, tree_of
from tests.helpers import ANY, changed, refused, some
from tests.primes import is_prime, told, tree_breach
from tests.test_soft import ABOVE, BELOW, P, Q, hard_prime, next_prime, soft_prime, towers

# Not prime, without a prime up to 10 ** 5, but they pass the twelve. The forerunner of the first one is hard,
# those of the others are soft.
DECEIVER = 318665857834031151167461
SOFT_DECEIVERS = (
    552727880697763694556181, 667636712015520329618581, 65189499380249561263545301, 128450234182244570895315061,
    164983134821180805150066181, 181559597398039788313289221, 807347857650044848649218981,
)


def right_tree(value):
    """Whether a value is a tree of its first entry."""
    return type(value) is tuple and len(value) == 3 and type(value[0]) is int and tree_breach(value[0], value) is None


def count(value):
    if isinstance(value, tuple):
        return sum(count(entry) for entry in value)
    return isinstance(value, int)


class Trees(unittest.TestCase):  # [34], [35]
    def check(self, p):
        tree = tree_of(p)
        self.assertEqual(tree[0], p)
        self.assertIsNone(tree_breach(p, tree))
        self.assertIs(is_tree(tree), True)
        self.assertEqual(entries(tree), count(tree))
        self.assertLess(entries(tree), 8 * p.bit_length())

    def test_small_numbers(self):
        for n in range(0, 1500):
            if is_prime(n):
                self.check(n)
            else:
                refused(self, NotPrime, {}, tree_of, n)
        self.assertEqual(tree_of(2), (2, 1, ()))
        self.assertEqual(tree_of(3), (3, 2, ((2, 1, (2, 1, ())),)))

    def test_around_10_to_the_5_and_10_to_the_10(self):
        for n in list(range(99980, 100050)) + list(range(BELOW - 20, BELOW + 60)) + [ABOVE, 99991 ** 2, P * P, P * Q]:
            kind = told(n)
            if kind == "prime":
                self.check(n)
            elif kind == "witness":
                refused(self, NotPrime, {}, tree_of, n)
            else:
                refused(self, TooHard, {"limit": 10 ** 5}, tree_of, n)

    def test_great_primes(self):
        kinds = set()
        for p in list(towers()) + [hard_prime(), soft_prime(20), soft_prime(39), 10 ** 40 - 17, next_prime(10 ** 25)]:
            kinds.add(told(p))
            if told(p) == "prime":
                self.check(p)
            else:
                refused(self, TooHard, {"limit": 10 ** 5}, tree_of, p)
        self.assertEqual(kinds, {"prime", "hard"})

    def test_too_hard_comes_ahead_of_not_prime(self):
        refused(self, TooHard, {"limit": 10 ** 5}, tree_of, DECEIVER)
        for n in SOFT_DECEIVERS:
            self.assertEqual(told(n), "witness")
            refused(self, NotPrime, {}, tree_of, n)
        refused(self, NotPrime, {}, tree_of, 10 ** 40)
        refused(self, NotPrime, {}, tree_of, P * Q)
        refused(self, NotPrime, {}, tree_of, ABOVE * BELOW)
        refused(self, NotPrime, {}, tree_of, 99991 * ABOVE)

    def test_a_forerunner_with_a_deceiver_is_hard(self):
        for n in SOFT_DECEIVERS[:3] + (DECEIVER,):
            k = 2
            while not is_prime(k * n + 1):
                k += 2
            self.assertEqual(told(k * n + 1), "hard")
            refused(self, TooHard, {"limit": 10 ** 5}, tree_of, k * n + 1)

    def test_wrong_trees(self):
        two = (2, 1, ())
        three = (3, 2, ((2, 1, two),))
        seven = (7, 3, ((2, 1, two), (3, 1, three)))
        for tree in (two, three, seven, (7, 5, seven[2]), (19, 2, ((2, 1, two), (3, 2, three)))):
            self.assertIs(is_tree(tree), True)
        for tree in (
            (7, 2, seven[2]), (7, 6, seven[2]), (7, 1, seven[2]), (7, 0, seven[2]), (7, 10, seven[2]), (7, -4, seven[2]),
            (7, 3, seven[2][::-1]), (7, 3, ((2, 1, two),)), (7, 3, ((6, 1, two),)), (1, 1, ()), (0, 0, ()), (2, 0, ()), (2, 2, ()),
            (7, 3, ((2, 1, three), (3, 1, three))), (7, 3, ((2, 1, two), (3, 1, two))), (7, 3, ((2, 0, two), (3, 1, three))),
            (19, 2, ((2, 1, two), (3, 1, three), (3, 1, three))), (3, 2, ((2, 1, (2, 1, ((2, 1, two),))),)),
            (2, 3, ()), (7, 3 + 7, seven[2]), (7, 7, seven[2]), (7, 8, seven[2]), (5, 2, ((4, 1, two),)), (10, 3, ((3, 2, three),)), (15, 2, ((2, 1, two), (7, 1, seven))), (-2, 1, ()),
        ):
            self.assertIs(is_tree(tree), False, tree)
            self.assertIs(is_tree(tree), right_tree(tree))

    def test_any_value(self):
        for p in (2, 3, 7, 31, 43):
            for value in list(ANY) + list(changed(tree_of(p))):
                self.assertIs(is_tree(value), right_tree(value), value)

    def test_great_exponents_do_no_harm(self):
        two = (2, 1, ())
        for q in (2, 10 ** 400, 3):
            self.assertIs(is_tree((10 ** 400 + 1, 3, ((q, 1000, two),))), False)
        self.assertIs(is_tree((2 ** 1000 + 1, 3, ((2, 1000, two),))), False)
        self.assertIs(is_tree((3, 2, ((2, 1001, two),))), False)
        # 7 * 2 ** 290 + 1 is prime.
        n = 7 * 2 ** 290 + 1
        seven = (7, 3, ((2, 1, two), (3, 1, (3, 2, ((2, 1, two),)))))
        found = [g for g in range(2, 60) if right_tree((n, g, ((2, 290, two), (7, 1, seven))))]
        self.assertEqual([g for g in range(2, 60) if is_tree((n, g, ((2, 290, two), (7, 1, seven))))], found)
        self.assertEqual(bool(found), is_prime(n))

    def test_exponents_to_1000(self):
        # Both numbers are prime; all that 1001 breaks is the bound of e.
        two, three = (2, 1, ()), (3, 2, ((2, 1, (2, 1, ())),))
        eleven, thirteen = tree_of(11), tree_of(13)
        for p, rows, right in (
            (13 * 2 ** 1000 + 1, ((2, 1000, two), (13, 1, thirteen)), True),
            (363 * 2 ** 1001 + 1, ((2, 1001, two), (3, 1, three), (11, 2, eleven)), False),
        ):
            g = next(g for g in range(2, 99) if all(pow(g, (p - 1) // one[0], p) != 1 for one in rows))
            self.assertEqual(pow(g, p - 1, p), 1)
            self.assertIs(is_tree((p, g, rows)), right)
            self.assertIs(is_tree((p, g + p, rows)), False)

    def test_numbers_are_counted(self):
        self.assertEqual(entries(()), 0)
        self.assertEqual(entries(7), 1)
        self.assertEqual(entries(("tried", 7)), 1)
        self.assertEqual(entries(("tree", (3, 2, ((2, 1, (2, 1, ())),)))), 6)
        self.assertEqual(entries("text"), 0)
        self.assertEqual(entries((1, (2, (3, ()), "x"), ((4,),))), 4)
